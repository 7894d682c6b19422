/-
  Proved: of any four lists of texts (the first 6 of each), what is between two that stand under the first one stands under it, too; the document's examples hold, and nothing that was handed in changes. Condition: the two tables of Go's library that the row lists (unicode/utf8's first and acceptRanges) hold what their initialisers lay, to which the card ties them; the walk reads neither.
-/
import Derived.Test.YtkhnieadmpahmaaDoorTie
import Derived.Test.YtkhnieadmpahmaaDoorCards
import Derived.LaidMore
import Derived.Lay
import Derived.SevenTiedAt
import Derived.Stop.Joined
import Derived.Test.YtkhnieadmpahmaaDoorNamesL
import Derived.WalkKit
import Derived.ProofKit
import Derived.OpenShut
import Derived.ShutString
import Derived.ChangeOld
import Derived.Below
namespace Go.Proofs.YtkhnieadmpahmaaDoor.namesSide
open Go.ChangeShapes Go.WideShapes Go.ChangeAt Go.RowKit
open Go.ChangeMaps (open_string shut_string)
set_option linter.unusedVariables false

theorem own : ownKnob Tryd.prog.godebug = none := by kernel_rfl
theorem laidOut : laidOutB Tryd.prog = true := by kernel_rfl

def IsRow (k : IntKind) (w : World) (a : Option Addr) (len cap : Nat) (zs : List Int) : Prop :=
  (a = none ∧ len = 0 ∧ cap = 0 ∧ zs = []) ∨
  ∃ x, a = some x ∧ len ≤ cap ∧ cap ≤ maxLen ∧ zs.length = cap ∧ (∀ i, i < zs.length → w.cell? (x.add i) = some (.int k (zs.getD i 0))) ∧ ∀ n ∈ zs, (Lit.int k n).wf = true

set_option maxRecDepth 100000 in
set_option maxHeartbeats 2000000 in
theorem walk (a0 : Option Addr) (len0 cap0 : Nat) (a1 : Option Addr) (len1 cap1 : Nat) (a2 : Option Addr) (len2 cap2 : Nat) (a3 : Option Addr) (len3 cap3 : Nat) (w : World) (w0 : RC Tryd.prog w 22 [.slice a0 len0 cap0]) (w1 : RC Tryd.prog w 22 [.slice a1 len1 cap1]) (w2 : RC Tryd.prog w 22 [.slice a2 len2 cap2]) (w3 : RC Tryd.prog w 22 [.slice a3 len3 cap3]) :
    Calls Tryd.prog 8 #[.slice a0 len0 cap0, .slice a1 len1 cap1, .slice a2 len2 cap2, .slice a3 len3 cap3] w fun e w' => e = .returned (.bool true) ∧ Below w.heap.size w w' := by
  obtain ⟨T, hT, _⟩ := w0.texts Tryd.underlying22 Tryd.underlying9 (by kernel_rfl)
  obtain ⟨P, hP, _⟩ := w1.texts Tryd.underlying22 Tryd.underlying9 (by kernel_rfl)
  obtain ⟨Q, hQ, _⟩ := w2.texts Tryd.underlying22 Tryd.underlying9 (by kernel_rfl)
  obtain ⟨R, hR, _⟩ := w3.texts Tryd.underlying22 Tryd.underlying9 (by kernel_rfl)
  clear w0 w1 w2 w3
  go_enter Tryd.func8, Tryd.ntmps8
  go_wp2_with fail
  refine (fewT_any hT).mono ?_
  rintro e v ⟨⟨n0, rfl, hT6, _⟩, rfl⟩
  generalize T.take 6 = T6 at hT6
  clear hT
  go_wp2_with fail
  refine (fewT_any hP).mono ?_
  rintro e v ⟨⟨n1, rfl, hP6, _⟩, rfl⟩
  generalize P.take 6 = P6 at hP6
  clear hP
  go_wp2_with fail
  refine (fewT_any hQ).mono ?_
  rintro e v ⟨⟨n2, rfl, hQ6, _⟩, rfl⟩
  generalize Q.take 6 = Q6 at hQ6
  clear hQ
  go_wp2_with fail
  refine (fewT_any hR).mono ?_
  rintro e v ⟨⟨n3, rfl, hR6, _⟩, rfl⟩
  generalize R.take 6 = R6 at hR6
  clear hR
  by_cases c1 : underP P6 T6
  · have C1 := Lib.hid c1
    by_cases c2 : underP R6 T6
    · have C2 := Lib.hid c2
      obtain ⟨x, hx⟩ : ∃ x : Int, Hid (cmpP P6 Q6 = x) := ⟨_, Lib.hid rfl⟩
      obtain ⟨y, hy⟩ : ∃ y : Int, Hid (cmpP Q6 R6 = y) := ⟨_, Lib.hid rfl⟩
      have CX := fun (w : World) {B B' : Nat} (h : HasT w B a1 n1 cap1 P6) (h' : HasT w B' a2 n2 cap2 Q6) => Lib.hid (cmpT_any h h')
      have CY := fun (w : World) {B B' : Nat} (h : HasT w B a2 n2 cap2 Q6) (h' : HasT w B' a3 n3 cap3 R6) => Lib.hid (cmpT_any h h')
      clear c1 c2
      rw [hx.out] at CX
      rw [hy.out] at CY
      go_wp2_with fail
      refine (under_yes hP6 hT6 C1.out).mono ?_
      rintro e v ⟨rfl, k1, rfl⟩
      go_wp2_with fail
      refine (under_yes (hR6.drewN k1) (hT6.drewN k1) C2.out).mono ?_
      rintro e v ⟨rfl, k2, rfl⟩
      rw [World.drewN_drewN]
      go_wp2_with fail
      refine (CX _ (hP6.drewN _) (hQ6.drewN _)).out.mono ?_
      rintro e v ⟨rfl, rfl⟩
      by_cases d1 : x ≤ 0
      · go_wp2_with fail
        refine (CY _ (hQ6.drewN _) (hR6.drewN _)).out.mono ?_
        rintro e v ⟨rfl, rfl⟩
        by_cases d2 : y ≤ 0
        · have C5 := Lib.hid (underP_side T6 P6 Q6 R6 C1.out C2.out (by rw [hx.out]; exact d1) (by rw [hy.out]; exact d2))
          go_wp2_with fail
          refine (under_yes (hQ6.drewN _) (hT6.drewN _) C5.out).mono ?_
          rintro e v ⟨rfl, k3, rfl⟩
          rw [World.drewN_drewN]
          have HB := below_drewN (Below.refl w.heap.size w) (k1 + k2 + k3)
          go_wp2_with fail
          refine (namesLives_any _).mono ?_
          rintro e v ⟨rfl, hb⟩
          go_wp2_with fail
          go_ret
          exact ⟨rfl, HB.trans (hb.mono HB.size)⟩
        · have HB := below_drewN (Below.refl w.heap.size w) (k1 + k2)
          go_wp2_with fail
          refine (namesLives_any _).mono ?_
          rintro e v ⟨rfl, hb⟩
          go_wp2_with fail
          go_ret
          exact ⟨rfl, HB.trans (hb.mono HB.size)⟩
      · have HB := below_drewN (Below.refl w.heap.size w) (k1 + k2)
        go_wp2_with fail
        refine (namesLives_any _).mono ?_
        rintro e v ⟨rfl, hb⟩
        go_wp2_with fail
        go_ret
        exact ⟨rfl, HB.trans (hb.mono HB.size)⟩
    · have C2 := Lib.hid c2
      clear c1 c2
      go_wp2_with fail
      refine (under_yes hP6 hT6 C1.out).mono ?_
      rintro e v ⟨rfl, k1, rfl⟩
      go_wp2_with fail
      refine (under_no (hR6.drewN k1) (hT6.drewN k1) C2.out).mono ?_
      rintro e v ⟨rfl, k2, rfl⟩
      rw [World.drewN_drewN]
      have HB := below_drewN (Below.refl w.heap.size w) (k1 + k2)
      go_wp2_with fail
      refine (namesLives_any _).mono ?_
      rintro e v ⟨rfl, hb⟩
      go_wp2_with fail
      go_ret
      exact ⟨rfl, HB.trans (hb.mono HB.size)⟩
  · have C1 := Lib.hid c1
    clear c1
    go_wp2_with fail
    refine (under_no hP6 hT6 C1.out).mono ?_
    rintro e v ⟨rfl, k1, rfl⟩
    have HB := below_drewN (Below.refl w.heap.size w) k1
    go_wp2_with fail
    refine (namesLives_any _).mono ?_
    rintro e v ⟨rfl, hb⟩
    go_wp2_with fail
    go_ret
    exact ⟨rfl, HB.trans (hb.mono HB.size)⟩

set_option maxRecDepth 100000 in
theorem lifted (os : Os) (started : os.Started) (H : Type) (enc : TypeId × Value → H) :
    ReturnsInHanded {} Tryd.checked os 8 .any (fun w args => (Rows.namesSideSpec.pre enc Tryd.prog Tryd.f8 Rows.namesSideRow.domain false w args ∧ laidMetH Tryd.prog Rows.namesSideRow.laid w) ∧ sizedMet enc Tryd.prog Tryd.f8 (OpenSpec.ofChange Rows.namesSideSpec) false w args) (Rows.namesSideSpec.post enc Tryd.prog Tryd.f8 false true false false) := by
  refine returnsInHanded_of_change_and (C := Tryd.checked) (X := fun w _ => laidMetH Tryd.prog Rows.namesSideRow.laid w) (fun _ _ _ hh h => h.of_heap hh) own started (by kernel_rfl) Tryd.func8
    (ChangeSpec.witness_shaped (enc := enc) (C := Tryd.checked) (os := os) (X := fun w _ => laidMetH Tryd.prog Rows.namesSideRow.laid w) false (World.laidAll Tryd.prog os Rows.namesSideRow.laid) #[.slice none 0 0, .slice none 0 0, .slice none 0 0, .slice none 0 0] 8 (World.laidAll_os _ _ _)
      (World.shaped_of_ZipB (by kernel_rfl) (by kernel_rfl)) (by kernel_rfl) (by kernel_rfl) (by kernel_rfl)
      (by rw [MakeChecks.laidMetH_plain _ _ _ (by kernel_rfl)]; exact laidMet_laidAll _ (by kernel_rfl) (by kernel_rfl))) ?_
  intro W base args ds gs before hval0 hW hcnd _ hL _
  have hval : ∀ (j : Nat) t v, Tryd.f8.params[j]? = some t → args[j]? = some v → Value.okWide Tryd.prog W .any base t v := hval0
  have hW' := hW
  obtain ⟨p, q, hA0, hV, rfl, hfz, hnd⟩ := hW
  have hA : DataW.TrodAll enc Tryd.prog W 0 (fun _ => true) true Tryd.f8.params.toList args.toList ds p := hA0
  rw [Tryd.params8] at hA hval
  obtain ⟨v0, vs0, d0, ds0, p0, q0, hargs, rfl, rfl, h0, r0⟩ := trodAll_cons hA
  obtain ⟨v1, vs1, d1, ds1, p1, q1, rfl, rfl, rfl, h1, r1⟩ := trodAll_cons r0
  obtain ⟨v2, vs2, d2, ds2, p2, q2, rfl, rfl, rfl, h2, r2⟩ := trodAll_cons r1
  obtain ⟨v3, vs3, d3, ds3, p3, q3, rfl, rfl, rfl, h3, r3⟩ := trodAll_cons r2
  obtain ⟨rfl, rfl, rfl⟩ := trodAll_nil r3
  obtain rfl : args = #[v0, v1, v2, v3] := by cases args; simp_all
  obtain ⟨rfl, rfl⟩ := trodVars_none hV
  obtain ⟨a0, len0, cap0, rfl⟩ := okWide_slice Tryd.underlying22 (hval 0 22 v0 rfl rfl)
  have k0 := h0
  have lt0 : ∀ x ∈ p0, x.block < W.heap.size := by obtain ⟨m, hm⟩ := k0; exact DataW.trod_lt m _ _ _ hm
  have w0 : RC Tryd.prog W 22 [.slice a0 len0 cap0] := by
    obtain ⟨fuel, hf⟩ := h0
    exact ⟨_, _, _, _, _, fuel, _, hf⟩
  obtain ⟨a1, len1, cap1, rfl⟩ := okWide_slice Tryd.underlying22 (hval 1 22 v1 rfl rfl)
  have k1 := h1
  have lt1 : ∀ x ∈ p1, x.block < W.heap.size := by obtain ⟨m, hm⟩ := k1; exact DataW.trod_lt m _ _ _ hm
  have w1 : RC Tryd.prog W 22 [.slice a1 len1 cap1] := by
    obtain ⟨fuel, hf⟩ := h1
    exact ⟨_, _, _, _, _, fuel, _, hf⟩
  obtain ⟨a2, len2, cap2, rfl⟩ := okWide_slice Tryd.underlying22 (hval 2 22 v2 rfl rfl)
  have k2 := h2
  have lt2 : ∀ x ∈ p2, x.block < W.heap.size := by obtain ⟨m, hm⟩ := k2; exact DataW.trod_lt m _ _ _ hm
  have w2 : RC Tryd.prog W 22 [.slice a2 len2 cap2] := by
    obtain ⟨fuel, hf⟩ := h2
    exact ⟨_, _, _, _, _, fuel, _, hf⟩
  obtain ⟨a3, len3, cap3, rfl⟩ := okWide_slice Tryd.underlying22 (hval 3 22 v3 rfl rfl)
  have k3 := h3
  have lt3 : ∀ x ∈ p3, x.block < W.heap.size := by obtain ⟨m, hm⟩ := k3; exact DataW.trod_lt m _ _ _ hm
  have w3 : RC Tryd.prog W 22 [.slice a3 len3 cap3] := by
    obtain ⟨fuel, hf⟩ := h3
    exact ⟨_, _, _, _, _, fuel, _, hf⟩
  clear hA0 hval0
  refine (walk a0 len0 cap0 a1 len1 cap1 a2 len2 cap2 a3 len3 cap3 W w0 w1 w2 w3).mono fun e W' ⟨he, bel⟩ => ?_
  subst he
  exact ⟨_, rfl, _, _, _, [], _, [], hW', trodAll_mk1 (shut_bool Tryd.underlying4 _), (trodAll_cons_mk (Below.trod laidOut (by kernel_rfl) (of_decide_eq_true (by kernel_rfl)) k0 bel lt0) (trodAll_cons_mk (Below.trod laidOut (by kernel_rfl) (of_decide_eq_true (by kernel_rfl)) k1 bel lt1) (trodAll_cons_mk (Below.trod laidOut (by kernel_rfl) (of_decide_eq_true (by kernel_rfl)) k2 bel lt2) (trodAll_cons_mk (Below.trod laidOut (by kernel_rfl) (of_decide_eq_true (by kernel_rfl)) k3 bel lt3) trodAll_mk0)))), rfl, bel.frame _, fun h => by cases h⟩

theorem over : Rows.namesSideRow.holds Tryd.pinned (OpenSpec.ofChange Rows.namesSideSpec) :=
  OpenClaim.holds_of_wide 8 Tryd.f8 rfl rfl rfl rfl rfl rfl rfl ⟨rfl, rfl, rfl, rfl, rfl⟩ rfl rfl rfl rfl rfl (by kernel_rfl) Tryd.func8 (by kernel_rfl)
    (of_decide_eq_true (by kernel_rfl)) (by unfold Func.isWrapper; first | (rw [if_pos (by decide +kernel)]; kernel_rfl) | (rw [if_neg (by decide +kernel)]; exact ⟨rfl, rfl⟩))
    (fun os started H enc _ => lifted os started H enc)

theorem proved : Rows.NamesSideCardSaid :=
  Claim7.holds_tied_plain_at .later [] [.data, .pinned] true (true, "8c47760688d2123e3d86ea739eb4e27e792e065c555e72cf01bd78d17d5cea6d") false over (fun _ h => by cases h) (by kernel_rfl) (fun _ h => by cases h) namesSide_row_tie rfl ⟨rfl, rfl⟩ (by kernel_rfl) rfl
    (fun f fn hf hfn => by
      obtain rfl : f = 8 := Option.some.inj ((show Tryd.prog.funcNamed "tesseract/tesseractlaw06.NamesSide" = some 8 by kernel_rfl).symm.trans hf) |>.symm
      obtain rfl : fn = Tryd.f8 := (Option.some.inj (Tryd.func8.symm.trans hfn)).symm
      exact ⟨by kernel_rfl, fun j t ht => by
        rw [Tryd.params8] at ht
        have hm : t ∈ [22, 22, 22, 22] := by simpa using Array.mem_of_getElem? ht
        have hall : ([22, 22, 22, 22].all fun u => !Tryd.prog.wantsStandIn u) = true := by kernel_rfl
        exact (show Tryd.prog.wantsStandIn t = false by simpa using List.all_eq_true.1 hall t hm)⟩)
    (by kernel_rfl)
end Go.Proofs.YtkhnieadmpahmaaDoor.namesSide
