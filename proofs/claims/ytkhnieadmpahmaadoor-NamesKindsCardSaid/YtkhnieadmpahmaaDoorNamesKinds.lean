/-
  Proved: which texts are names, and which lists of texts (the first 6) are paths, with which texts, names.Name, May and Text tell just as the document's definitions do; the document's examples hold, and nothing that was handed in changes. Condition: the two tables of Go's library that the row lists (unicode/utf8's first and acceptRanges) hold what their initialisers lay, to which the card ties them; the walk reads neither.
-/
import Derived.Test.YtkhnieadmpahmaaDoorTie
import Derived.Test.YtkhnieadmpahmaaDoorCards
import Derived.LaidMore
import Derived.Lay
import Derived.SevenTiedAt
import Derived.Stop.Joined
import Derived.Test.YtkhnieadmpahmaaDoorNamesW
import Derived.WalkKit
import Derived.ProofKit
import Derived.OpenShut
import Derived.ShutString
import Derived.ChangeOld
import Derived.Below
namespace Go.Proofs.YtkhnieadmpahmaaDoor.namesKinds
open Go.ChangeShapes Go.WideShapes Go.ChangeAt Go.RowKit
open Go.ChangeMaps (open_string shut_string)
set_option linter.unusedVariables false

theorem own : ownKnob Tryd.prog.godebug = none := by kernel_rfl
theorem laidOut : laidOutB Tryd.prog = true := by kernel_rfl

def IsRow (k : IntKind) (w : World) (a : Option Addr) (len cap : Nat) (zs : List Int) : Prop :=
  (a = none ∧ len = 0 ∧ cap = 0 ∧ zs = []) ∨
  ∃ x, a = some x ∧ len ≤ cap ∧ cap ≤ maxLen ∧ zs.length = cap ∧ (∀ i, i < zs.length → w.cell? (x.add i) = some (.int k (zs.getD i 0))) ∧ ∀ n ∈ zs, (Lit.int k n).wf = true

set_option maxRecDepth 100000 in
set_option maxHeartbeats 2000000 in
theorem walk (a0 : ByteArray) (a1 : Option Addr) (len1 cap1 : Nat) (w : World) (w0 : a0.size ≤ maxLen) (w1 : RC Tryd.prog w 22 [.slice a1 len1 cap1]) :
    Calls Tryd.prog 3 #[.string a0, .slice a1 len1 cap1] w fun e w' => e = .returned (.bool true) ∧ Below w.heap.size w w' := by
  obtain ⟨P, hP, _⟩ := w1.texts Tryd.underlying22 Tryd.underlying9 (by kernel_rfl)
  clear w1
  go_enter Tryd.func3, Tryd.ntmps3
  go_wp2_with fail
  refine (fewT_any hP).mono ?_
  rintro e v ⟨⟨n1, rfl, hP6, hn1⟩, rfl⟩
  generalize P.take 6 = P6 at hP6
  clear hP
  obtain ⟨b, hb⟩ : ∃ b : Bool, Hid (decide (nameP a0.data.toList) = b) := ⟨_, Lib.hid rfl⟩
  have hbb : (b == b) = true := by simp
  by_cases hm : mayP P6
  · have HM := Lib.hid hm
    have HD := Lib.hid (decide_eq_true hm)
    obtain ⟨x, hx⟩ : ∃ x : Txt, Hid (textP P6 = x) := ⟨_, Lib.hid rfl⟩
    have hxx : (x == x) = true := by simp
    have HC := Lib.hid (text_yes hP6 hm)
    rw [hx.out] at HC
    clear hm
    go_wp2_with fail
    refine (HC.out).mono ?_
    rintro e v ⟨rfl, hb1⟩
    have hP1 := hP6.belowS hb1
    clear hP6 HC
    have HC := Lib.hid (refText_yes hP1 HM.out)
    rw [hx.out] at HC
    go_wp2_with fail
    refine (HC.out).mono ?_
    rintro e v ⟨rfl, rfl⟩
    clear HC
    go_wp2_with fail
    refine (nameS_is hb).mono ?_
    rintro e v2 ⟨rfl, hb2⟩
    have hP2 := hP1.belowS hb2
    have HB := below_then hb1 hb2
    clear hP1 hb1 hb2
    go_wp2_with fail
    refine (refNameS_is hb).mono ?_
    rintro e v ⟨rfl, rfl⟩
    go_wp2_with fail
    refine (may_is HD hP2).mono ?_
    rintro e v3 ⟨rfl, hb3⟩
    have hP3 := hP2.belowS hb3
    have HB3 := below_then HB hb3
    clear hP2 hb3
    go_wp2_with fail
    refine (refMay_is HD hP3).mono ?_
    rintro e v ⟨rfl, rfl⟩
    clear hP3
    go_wp2_with fail
    refine (namesLives_any _).mono ?_
    rintro e vl ⟨rfl, hbl⟩
    go_wp2_with fail
    go_ret
    exact ⟨rfl, HB3.trans (hbl.mono HB3.size)⟩
  · have HM := Lib.hid hm
    have HD := Lib.hid (decide_eq_false hm)
    have HC := Lib.hid (text_no hP6 hm)
    clear hm
    go_wp2_with fail
    refine (HC.out).mono ?_
    rintro e v ⟨rfl, hb1⟩
    have hP1 := hP6.belowS hb1
    clear hP6 HC
    have HC := Lib.hid (refText_no hP1 HM.out)
    go_wp2_with fail
    refine (HC.out).mono ?_
    rintro e v ⟨rfl, rfl⟩
    clear HC
    go_wp2_with fail
    refine (nameS_is hb).mono ?_
    rintro e v2 ⟨rfl, hb2⟩
    have hP2 := hP1.belowS hb2
    have HB := below_then hb1 hb2
    clear hP1 hb1 hb2
    go_wp2_with fail
    refine (refNameS_is hb).mono ?_
    rintro e v ⟨rfl, rfl⟩
    go_wp2_with fail
    refine (may_is HD hP2).mono ?_
    rintro e v3 ⟨rfl, hb3⟩
    have hP3 := hP2.belowS hb3
    have HB3 := below_then HB hb3
    clear hP2 hb3
    go_wp2_with fail
    refine (refMay_is HD hP3).mono ?_
    rintro e v ⟨rfl, rfl⟩
    clear hP3
    go_wp2_with fail
    refine (namesLives_any _).mono ?_
    rintro e vl ⟨rfl, hbl⟩
    go_wp2_with fail
    go_ret
    exact ⟨rfl, HB3.trans (hbl.mono HB3.size)⟩

set_option maxRecDepth 100000 in
theorem lifted (os : Os) (started : os.Started) (H : Type) (enc : TypeId × Value → H) :
    ReturnsInHanded {} Tryd.checked os 3 .any (fun w args => (Rows.namesKindsSpec.pre enc Tryd.prog Tryd.f3 Rows.namesKindsRow.domain false w args ∧ laidMetH Tryd.prog Rows.namesKindsRow.laid w) ∧ sizedMet enc Tryd.prog Tryd.f3 (OpenSpec.ofChange Rows.namesKindsSpec) false w args) (Rows.namesKindsSpec.post enc Tryd.prog Tryd.f3 false true false false) := by
  refine returnsInHanded_of_change_and (C := Tryd.checked) (X := fun w _ => laidMetH Tryd.prog Rows.namesKindsRow.laid w) (fun _ _ _ hh h => h.of_heap hh) own started (by kernel_rfl) Tryd.func3
    (ChangeSpec.witness_shaped (enc := enc) (C := Tryd.checked) (os := os) (X := fun w _ => laidMetH Tryd.prog Rows.namesKindsRow.laid w) false (World.laidAll Tryd.prog os Rows.namesKindsRow.laid) #[.string ByteArray.empty, .slice none 0 0] 8 (World.laidAll_os _ _ _)
      (World.shaped_of_ZipB (by kernel_rfl) (by kernel_rfl)) (by kernel_rfl) (by kernel_rfl) (by kernel_rfl)
      (by rw [MakeChecks.laidMetH_plain _ _ _ (by kernel_rfl)]; exact laidMet_laidAll _ (by kernel_rfl) (by kernel_rfl))) ?_
  intro W base args ds gs before hval0 hW hcnd _ hL _
  have hval : ∀ (j : Nat) t v, Tryd.f3.params[j]? = some t → args[j]? = some v → Value.okWide Tryd.prog W .any base t v := hval0
  have hW' := hW
  obtain ⟨p, q, hA0, hV, rfl, hfz, hnd⟩ := hW
  have hA : DataW.TrodAll enc Tryd.prog W 0 (fun _ => true) true Tryd.f3.params.toList args.toList ds p := hA0
  rw [Tryd.params3] at hA hval
  obtain ⟨v0, vs0, d0, ds0, p0, q0, hargs, rfl, rfl, h0, r0⟩ := trodAll_cons hA
  obtain ⟨v1, vs1, d1, ds1, p1, q1, rfl, rfl, rfl, h1, r1⟩ := trodAll_cons r0
  obtain ⟨rfl, rfl, rfl⟩ := trodAll_nil r1
  obtain rfl : args = #[v0, v1] := by cases args; simp_all
  obtain ⟨rfl, rfl⟩ := trodVars_none hV
  obtain ⟨a0, rfl, rfl, rfl, w0⟩ := open_string Tryd.underlying9 (hval 0 9 v0 rfl rfl) h0
  obtain ⟨a1, len1, cap1, rfl⟩ := okWide_slice Tryd.underlying22 (hval 1 22 v1 rfl rfl)
  have k1 := h1
  have lt1 : ∀ x ∈ p1, x.block < W.heap.size := by obtain ⟨m, hm⟩ := k1; exact DataW.trod_lt m _ _ _ hm
  have w1 : RC Tryd.prog W 22 [.slice a1 len1 cap1] := by
    obtain ⟨fuel, hf⟩ := h1
    exact ⟨_, _, _, _, _, fuel, _, hf⟩
  clear hA0 hval0
  refine (walk a0 a1 len1 cap1 W w0 w1).mono fun e W' ⟨he, bel⟩ => ?_
  subst he
  exact ⟨_, rfl, _, _, _, [], _, [], hW', trodAll_mk1 (shut_bool Tryd.underlying4 _), (trodAll_cons_mk (shut_string Tryd.underlying9 w0) (trodAll_cons_mk (Below.trod laidOut (by kernel_rfl) (of_decide_eq_true (by kernel_rfl)) k1 bel lt1) trodAll_mk0)), rfl, bel.frame _, fun h => by cases h⟩

theorem over : Rows.namesKindsRow.holds Tryd.pinned (OpenSpec.ofChange Rows.namesKindsSpec) :=
  OpenClaim.holds_of_wide 3 Tryd.f3 rfl rfl rfl rfl rfl rfl rfl ⟨rfl, rfl, rfl, rfl, rfl⟩ rfl rfl rfl rfl rfl (by kernel_rfl) Tryd.func3 (by kernel_rfl)
    (of_decide_eq_true (by kernel_rfl)) (by unfold Func.isWrapper; first | (rw [if_pos (by decide +kernel)]; kernel_rfl) | (rw [if_neg (by decide +kernel)]; exact ⟨rfl, rfl⟩))
    (fun os started H enc _ => lifted os started H enc)

theorem proved : Rows.NamesKindsCardSaid :=
  Claim7.holds_tied_plain_at .later [] [.data, .pinned] true (true, "8c47760688d2123e3d86ea739eb4e27e792e065c555e72cf01bd78d17d5cea6d") false over (fun _ h => by cases h) (by kernel_rfl) (fun _ h => by cases h) namesKinds_row_tie rfl ⟨rfl, rfl⟩ (by kernel_rfl) rfl
    (fun f fn hf hfn => by
      obtain rfl : f = 3 := Option.some.inj ((show Tryd.prog.funcNamed "tesseract/tesseractlaw06.NamesKinds" = some 3 by kernel_rfl).symm.trans hf) |>.symm
      obtain rfl : fn = Tryd.f3 := (Option.some.inj (Tryd.func3.symm.trans hfn)).symm
      exact ⟨by kernel_rfl, fun j t ht => by
        rw [Tryd.params3] at ht
        have hm : t ∈ [9, 22] := by simpa using Array.mem_of_getElem? ht
        have hall : ([9, 22].all fun u => !Tryd.prog.wantsStandIn u) = true := by kernel_rfl
        exact (show Tryd.prog.wantsStandIn t = false by simpa using List.all_eq_true.1 hall t hm)⟩)
    (by kernel_rfl)
end Go.Proofs.YtkhnieadmpahmaaDoor.namesKinds
