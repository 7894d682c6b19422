/-
  Proved: names.Cmp is an order of any three lists of texts (the first 6 of each): of two lists it answers the negative of what it answers of them turned round, 0 just if they are one, and it is transitive; the document's examples hold, and nothing that was handed in changes. Condition: the two tables of Go's library that the row lists (unicode/utf8's first and acceptRanges) hold what their initialisers lay, to which the card ties them; the walk reads neither.
-/
import Derived.Test.YtkhnieadmpahmaaDoorTie
import Derived.Test.YtkhnieadmpahmaaDoorCards
import Derived.LaidMore
import Derived.Lay
import Derived.SevenTiedAt
import Derived.Stop.Joined
import Derived.Test.YtkhnieadmpahmaaDoorNamesW
import Derived.WalkKit
import Derived.ProofKit
import Derived.OpenShut
import Derived.ShutString
import Derived.ChangeOld
import Derived.Below
namespace Go.Proofs.YtkhnieadmpahmaaDoor.namesOrder
open Go.ChangeShapes Go.WideShapes Go.ChangeAt Go.RowKit
open Go.ChangeMaps (open_string shut_string)
set_option linter.unusedVariables false

theorem own : ownKnob Tryd.prog.godebug = none := by kernel_rfl
theorem laidOut : laidOutB Tryd.prog = true := by kernel_rfl

def IsRow (k : IntKind) (w : World) (a : Option Addr) (len cap : Nat) (zs : List Int) : Prop :=
  (a = none ∧ len = 0 ∧ cap = 0 ∧ zs = []) ∨
  ∃ x, a = some x ∧ len ≤ cap ∧ cap ≤ maxLen ∧ zs.length = cap ∧ (∀ i, i < zs.length → w.cell? (x.add i) = some (.int k (zs.getD i 0))) ∧ ∀ n ∈ zs, (Lit.int k n).wf = true

set_option maxRecDepth 100000 in
set_option maxHeartbeats 2000000 in
theorem walk (a0 : Option Addr) (len0 cap0 : Nat) (a1 : Option Addr) (len1 cap1 : Nat) (a2 : Option Addr) (len2 cap2 : Nat) (w : World) (w0 : RC Tryd.prog w 22 [.slice a0 len0 cap0]) (w1 : RC Tryd.prog w 22 [.slice a1 len1 cap1]) (w2 : RC Tryd.prog w 22 [.slice a2 len2 cap2]) :
    Calls Tryd.prog 7 #[.slice a0 len0 cap0, .slice a1 len1 cap1, .slice a2 len2 cap2] w fun e w' => e = .returned (.bool true) ∧ Below w.heap.size w w' := by
  obtain ⟨P, hP, _⟩ := w0.texts Tryd.underlying22 Tryd.underlying9 (by kernel_rfl)
  obtain ⟨Q, hQ, _⟩ := w1.texts Tryd.underlying22 Tryd.underlying9 (by kernel_rfl)
  obtain ⟨R, hR, _⟩ := w2.texts Tryd.underlying22 Tryd.underlying9 (by kernel_rfl)
  clear w0 w1 w2
  go_enter Tryd.func7, Tryd.ntmps7
  go_wp2_with fail
  refine (fewT_any hP).mono ?_
  rintro e v ⟨⟨n0, rfl, hP6, hn0⟩, rfl⟩
  generalize P.take 6 = P6 at hP6
  clear hP
  go_wp2_with fail
  refine (fewT_any hQ).mono ?_
  rintro e v ⟨⟨n1, rfl, hQ6, hn1⟩, rfl⟩
  generalize Q.take 6 = Q6 at hQ6
  clear hQ
  go_wp2_with fail
  refine (fewT_any hR).mono ?_
  rintro e v ⟨⟨n2, rfl, hR6, hn2⟩, rfl⟩
  generalize R.take 6 = R6 at hR6
  clear hR
  obtain ⟨x, y, z, u, b, hx, hy, hz, hu, hb, hc, ho⟩ := order_facts P6 Q6 R6
  go_wp2_with fail
  refine (same_is hb hP6 hQ6).mono ?_
  rintro e v ⟨rfl, k, rfl⟩
  have HB := below_drewN (Below.refl w.heap.size w) k
  have gP := hP6.drewN k
  have gQ := hQ6.drewN k
  have gR := hR6.drewN k
  clear hP6 hQ6 hR6
  rcases hc with ⟨rfl, rfl, rfl⟩ | ⟨rfl, rfl, rfl⟩ | ⟨rfl, rfl, rfl⟩
  · go_wp2_with fail
    refine (cmp_is hx gP gQ).mono ?_
    rintro e v ⟨rfl, rfl⟩
    go_wp2_with fail
    refine (cmp_is hy gQ gP).mono ?_
    rintro e v ⟨rfl, rfl⟩
    go_wp2_with fail
    refine (cmp_is hx gP gQ).mono ?_
    rintro e v ⟨rfl, rfl⟩
    go_wp2_with fail
    refine (cmp_is hx gP gQ).mono ?_
    rintro e v ⟨rfl, rfl⟩
    by_cases d : z ≤ 0
    · have hu1 : u ≤ 0 := ho.out (by decide) d
      have hu2 : ¬ 0 < u := by omega
      go_wp2_with fail
      refine (cmp_is hz gQ gR).mono ?_
      rintro e v ⟨rfl, rfl⟩
      go_wp2_with fail
      refine (cmp_is hu gP gR).mono ?_
      rintro e v ⟨rfl, rfl⟩
      go_wp2_with fail
      refine (namesLives_any _).mono ?_
      rintro e vl ⟨rfl, hbl⟩
      go_wp2_with fail
      go_ret
      exact ⟨rfl, HB.trans (hbl.mono HB.size)⟩
    · go_wp2_with fail
      refine (cmp_is hz gQ gR).mono ?_
      rintro e v ⟨rfl, rfl⟩
      go_wp2_with fail
      refine (namesLives_any _).mono ?_
      rintro e vl ⟨rfl, hbl⟩
      go_wp2_with fail
      go_ret
      exact ⟨rfl, HB.trans (hbl.mono HB.size)⟩
  · go_wp2_with fail
    refine (cmp_is hx gP gQ).mono ?_
    rintro e v ⟨rfl, rfl⟩
    go_wp2_with fail
    refine (cmp_is hy gQ gP).mono ?_
    rintro e v ⟨rfl, rfl⟩
    go_wp2_with fail
    refine (cmp_is hx gP gQ).mono ?_
    rintro e v ⟨rfl, rfl⟩
    go_wp2_with fail
    refine (cmp_is hx gP gQ).mono ?_
    rintro e v ⟨rfl, rfl⟩
    by_cases d : z ≤ 0
    · have hu1 : u ≤ 0 := ho.out (by decide) d
      have hu2 : ¬ 0 < u := by omega
      go_wp2_with fail
      refine (cmp_is hz gQ gR).mono ?_
      rintro e v ⟨rfl, rfl⟩
      go_wp2_with fail
      refine (cmp_is hu gP gR).mono ?_
      rintro e v ⟨rfl, rfl⟩
      go_wp2_with fail
      refine (namesLives_any _).mono ?_
      rintro e vl ⟨rfl, hbl⟩
      go_wp2_with fail
      go_ret
      exact ⟨rfl, HB.trans (hbl.mono HB.size)⟩
    · go_wp2_with fail
      refine (cmp_is hz gQ gR).mono ?_
      rintro e v ⟨rfl, rfl⟩
      go_wp2_with fail
      refine (namesLives_any _).mono ?_
      rintro e vl ⟨rfl, hbl⟩
      go_wp2_with fail
      go_ret
      exact ⟨rfl, HB.trans (hbl.mono HB.size)⟩
  · go_wp2_with fail
    refine (cmp_is hx gP gQ).mono ?_
    rintro e v ⟨rfl, rfl⟩
    go_wp2_with fail
    refine (cmp_is hy gQ gP).mono ?_
    rintro e v ⟨rfl, rfl⟩
    go_wp2_with fail
    refine (cmp_is hx gP gQ).mono ?_
    rintro e v ⟨rfl, rfl⟩
    go_wp2_with fail
    refine (cmp_is hx gP gQ).mono ?_
    rintro e v ⟨rfl, rfl⟩
    go_wp2_with fail
    refine (namesLives_any _).mono ?_
    rintro e vl ⟨rfl, hbl⟩
    go_wp2_with fail
    go_ret
    exact ⟨rfl, HB.trans (hbl.mono HB.size)⟩

set_option maxRecDepth 100000 in
theorem lifted (os : Os) (started : os.Started) (H : Type) (enc : TypeId × Value → H) :
    ReturnsInHanded {} Tryd.checked os 7 .any (fun w args => (Rows.namesOrderSpec.pre enc Tryd.prog Tryd.f7 Rows.namesOrderRow.domain false w args ∧ laidMetH Tryd.prog Rows.namesOrderRow.laid w) ∧ sizedMet enc Tryd.prog Tryd.f7 (OpenSpec.ofChange Rows.namesOrderSpec) false w args) (Rows.namesOrderSpec.post enc Tryd.prog Tryd.f7 false true false false) := by
  refine returnsInHanded_of_change_and (C := Tryd.checked) (X := fun w _ => laidMetH Tryd.prog Rows.namesOrderRow.laid w) (fun _ _ _ hh h => h.of_heap hh) own started (by kernel_rfl) Tryd.func7
    (ChangeSpec.witness_shaped (enc := enc) (C := Tryd.checked) (os := os) (X := fun w _ => laidMetH Tryd.prog Rows.namesOrderRow.laid w) false (World.laidAll Tryd.prog os Rows.namesOrderRow.laid) #[.slice none 0 0, .slice none 0 0, .slice none 0 0] 8 (World.laidAll_os _ _ _)
      (World.shaped_of_ZipB (by kernel_rfl) (by kernel_rfl)) (by kernel_rfl) (by kernel_rfl) (by kernel_rfl)
      (by rw [MakeChecks.laidMetH_plain _ _ _ (by kernel_rfl)]; exact laidMet_laidAll _ (by kernel_rfl) (by kernel_rfl))) ?_
  intro W base args ds gs before hval0 hW hcnd _ hL _
  have hval : ∀ (j : Nat) t v, Tryd.f7.params[j]? = some t → args[j]? = some v → Value.okWide Tryd.prog W .any base t v := hval0
  have hW' := hW
  obtain ⟨p, q, hA0, hV, rfl, hfz, hnd⟩ := hW
  have hA : DataW.TrodAll enc Tryd.prog W 0 (fun _ => true) true Tryd.f7.params.toList args.toList ds p := hA0
  rw [Tryd.params7] at hA hval
  obtain ⟨v0, vs0, d0, ds0, p0, q0, hargs, rfl, rfl, h0, r0⟩ := trodAll_cons hA
  obtain ⟨v1, vs1, d1, ds1, p1, q1, rfl, rfl, rfl, h1, r1⟩ := trodAll_cons r0
  obtain ⟨v2, vs2, d2, ds2, p2, q2, rfl, rfl, rfl, h2, r2⟩ := trodAll_cons r1
  obtain ⟨rfl, rfl, rfl⟩ := trodAll_nil r2
  obtain rfl : args = #[v0, v1, v2] := by cases args; simp_all
  obtain ⟨rfl, rfl⟩ := trodVars_none hV
  obtain ⟨a0, len0, cap0, rfl⟩ := okWide_slice Tryd.underlying22 (hval 0 22 v0 rfl rfl)
  have k0 := h0
  have lt0 : ∀ x ∈ p0, x.block < W.heap.size := by obtain ⟨m, hm⟩ := k0; exact DataW.trod_lt m _ _ _ hm
  have w0 : RC Tryd.prog W 22 [.slice a0 len0 cap0] := by
    obtain ⟨fuel, hf⟩ := h0
    exact ⟨_, _, _, _, _, fuel, _, hf⟩
  obtain ⟨a1, len1, cap1, rfl⟩ := okWide_slice Tryd.underlying22 (hval 1 22 v1 rfl rfl)
  have k1 := h1
  have lt1 : ∀ x ∈ p1, x.block < W.heap.size := by obtain ⟨m, hm⟩ := k1; exact DataW.trod_lt m _ _ _ hm
  have w1 : RC Tryd.prog W 22 [.slice a1 len1 cap1] := by
    obtain ⟨fuel, hf⟩ := h1
    exact ⟨_, _, _, _, _, fuel, _, hf⟩
  obtain ⟨a2, len2, cap2, rfl⟩ := okWide_slice Tryd.underlying22 (hval 2 22 v2 rfl rfl)
  have k2 := h2
  have lt2 : ∀ x ∈ p2, x.block < W.heap.size := by obtain ⟨m, hm⟩ := k2; exact DataW.trod_lt m _ _ _ hm
  have w2 : RC Tryd.prog W 22 [.slice a2 len2 cap2] := by
    obtain ⟨fuel, hf⟩ := h2
    exact ⟨_, _, _, _, _, fuel, _, hf⟩
  clear hA0 hval0
  refine (walk a0 len0 cap0 a1 len1 cap1 a2 len2 cap2 W w0 w1 w2).mono fun e W' ⟨he, bel⟩ => ?_
  subst he
  exact ⟨_, rfl, _, _, _, [], _, [], hW', trodAll_mk1 (shut_bool Tryd.underlying4 _), (trodAll_cons_mk (Below.trod laidOut (by kernel_rfl) (of_decide_eq_true (by kernel_rfl)) k0 bel lt0) (trodAll_cons_mk (Below.trod laidOut (by kernel_rfl) (of_decide_eq_true (by kernel_rfl)) k1 bel lt1) (trodAll_cons_mk (Below.trod laidOut (by kernel_rfl) (of_decide_eq_true (by kernel_rfl)) k2 bel lt2) trodAll_mk0))), rfl, bel.frame _, fun h => by cases h⟩

theorem over : Rows.namesOrderRow.holds Tryd.pinned (OpenSpec.ofChange Rows.namesOrderSpec) :=
  OpenClaim.holds_of_wide 7 Tryd.f7 rfl rfl rfl rfl rfl rfl rfl ⟨rfl, rfl, rfl, rfl, rfl⟩ rfl rfl rfl rfl rfl (by kernel_rfl) Tryd.func7 (by kernel_rfl)
    (of_decide_eq_true (by kernel_rfl)) (by unfold Func.isWrapper; first | (rw [if_pos (by decide +kernel)]; kernel_rfl) | (rw [if_neg (by decide +kernel)]; exact ⟨rfl, rfl⟩))
    (fun os started H enc _ => lifted os started H enc)

theorem proved : Rows.NamesOrderCardSaid :=
  Claim7.holds_tied_plain_at .later [] [.data, .pinned] true (true, "8c47760688d2123e3d86ea739eb4e27e792e065c555e72cf01bd78d17d5cea6d") false over (fun _ h => by cases h) (by kernel_rfl) (fun _ h => by cases h) namesOrder_row_tie rfl ⟨rfl, rfl⟩ (by kernel_rfl) rfl
    (fun f fn hf hfn => by
      obtain rfl : f = 7 := Option.some.inj ((show Tryd.prog.funcNamed "tesseract/tesseractlaw06.NamesOrder" = some 7 by kernel_rfl).symm.trans hf) |>.symm
      obtain rfl : fn = Tryd.f7 := (Option.some.inj (Tryd.func7.symm.trans hfn)).symm
      exact ⟨by kernel_rfl, fun j t ht => by
        rw [Tryd.params7] at ht
        have hm : t ∈ [22, 22, 22] := by simpa using Array.mem_of_getElem? ht
        have hall : ([22, 22, 22].all fun u => !Tryd.prog.wantsStandIn u) = true := by kernel_rfl
        exact (show Tryd.prog.wantsStandIn t = false by simpa using List.all_eq_true.1 hall t hm)⟩)
    (by kernel_rfl)
end Go.Proofs.YtkhnieadmpahmaaDoor.namesOrder
