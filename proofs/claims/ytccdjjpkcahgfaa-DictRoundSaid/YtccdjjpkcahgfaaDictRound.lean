/-
  Proved: whatever dictionary (of 1 to 3 levels, of any lists of texts, the first 60 put in) is put behind whatever bytes (the first 20), dict.Read reads it again, with just its bytes, and it answers as the document's does; the document's examples hold, and nothing that was handed in is changed. No condition.
-/
import Derived.Test.YtccdjjpkcahgfaaRows
import Derived.Test.YtccdjjpkcahgfaaDictV
import Derived.Test.YtccdjjpkcahgfaaDictU
import Derived.WalkKit
import Derived.ProofKit
import Derived.OpenShut
import Derived.ShutString
import Derived.ChangeOld
import Derived.Below
namespace Go.Proofs.Ytccdjjpkcahgfaa.dictRound
open Go.ChangeShapes Go.WideShapes Go.ChangeAt Go.RowKit
open Go.ChangeMaps (open_string shut_string)
set_option linter.unusedVariables false

theorem own : ownKnob Try.prog.godebug = none := by kernel_rfl
theorem laidOut : laidOutB Try.prog = true := by kernel_rfl

def IsRow (k : IntKind) (w : World) (a : Option Addr) (len cap : Nat) (zs : List Int) : Prop :=
  (a = none ∧ len = 0 ∧ cap = 0 ∧ zs = []) ∨
  ∃ x, a = some x ∧ len ≤ cap ∧ cap ≤ maxLen ∧ zs.length = cap ∧ (∀ i, i < zs.length → w.cell? (x.add i) = some (.int k (zs.getD i 0))) ∧ ∀ n ∈ zs, (Lit.int k n).wf = true

set_option maxRecDepth 100000 in
set_option maxHeartbeats 2000000 in
theorem walk (a0 : Int) (a1 : Option Addr) (len1 cap1 : Nat) (a2 : Option Addr) (len2 cap2 : Nat) (z2 : List Int) (w : World) (w0 : (Lit.int .i64 a0).wf = true) (w1 : RC Try.prog w 22 [.slice a1 len1 cap1]) (w2 : IsRow .u8 w a2 len2 cap2 z2) :
    Calls Try.prog 5 #[.int .i64 a0, .slice a1 len1 cap1, .slice a2 len2 cap2] w fun e w' => e = .returned (.bool true) ∧ Below w.heap.size w w' := by
  obtain ⟨L, hL⟩ := w1.textss Try.underlying22 Try.underlying30 Try.underlying9 (by kernel_rfl) (by kernel_rfl)
  obtain ⟨l0, hr0⟩ := HasB.of_row w2
  clear w1 w2
  obtain ⟨l1, l2⟩ := i64_of_wf w0
  clear w0
  have hcap := hr0.cap
  have hcm := hr0.capMax
  rcases Nat.lt_or_ge 20 len2 with hlt | hlt
  · obtain ⟨l, hb0⟩ : ∃ l, HasB w w.heap.size a2 20 cap2 l := ⟨_, hr0.take_ 20 (by omega)⟩
    have hgt : (20 : Int) < (len2 : Int) := by omega
    have hcp : (20 : Int) ≤ (cap2 : Int) := by omega
    have hnn : 20 ≤ 20 := by omega
    clear hr0 hlt
    go_enter Try.func5, Try.ntmps5
    go_wp2_with fail
    refine (both_any a0 l1 l2 hL).mono ?_
    rintro e w1 ⟨⟨g, bm, r, n, pv, Lv, Q, rfl, hT⟩, hB1⟩
    have hs1 := hB1.size
    have HT := Lib.hid hT
    have hput := put_any hT.d ((hb0.below hB1 (Nat.le_refl _)).more hs1) (by omega)
    have hln := Lib.hid hb0.len
    obtain ⟨m, hm⟩ : ∃ m, Hid ((encD Q).length = m) := ⟨_, Lib.hid rfl⟩
    have HE := Lib.hid (rdD_put hT.d.good hT.whole)
    have hm2 := encD_len hT.d.good
    rw [hm.out] at HE hm2
    obtain ⟨hm1, hm2⟩ := hm2
    clear hT hb0 hL l1 l2
    go_wp2_with fail
    refine hput.mono ?_
    rintro e w2 ⟨v, rfl, hO, hB2⟩
    have hT2 := Lib.hid (HT.out.below hB2)
    obtain ⟨A', nb, c', rfl, hv, _⟩ := hO.formN
    obtain rfl : nb = m + 20 := by
      have h1 := hv.len
      have h2 := hln.out
      have h3 := hm.out
      rw [List.length_append] at h1
      omega
    have hcv := hv.cap
    have hcmv := hv.capMax
    have hne : ¬ c' = 20 := by omega
    have hD : Hid (HasB w2 w2.heap.size (A'.map (·.add 20)) m (c' - 20) (encD Q)) := Lib.hid (by
      have h1 := cut_is hv (p := 20) (by omega) hne
      have e : (l ++ encD Q).drop 20 = encD Q := by rw [← hln.out]; exact List.drop_left
      rwa [Nat.add_sub_cancel, e] at h1)
    have hnlt : ¬ (m : Int) + (20 : Int) < (20 : Int) := by omega
    have hb1 : (20 : Int) ≤ (m : Int) + (20 : Int) := by omega
    have hb2 : (m : Int) + (20 : Int) ≤ (c' : Int) := by omega
    have hb3 : (20 : Int) ≤ (c' : Int) := by omega
    have HB2 := Lib.hid hB2
    clear hput hO hv hB2
    go_wp2_with fail
    refine (wireNew_any _ _ _ _ _ hD.out (by omega)).mono ?_
    rintro e w3 ⟨g2, A2, c2, rfl, hR, hg2, hB3⟩
    have hB13 := HB2.out.trans (hB3.mono HB2.out.size)
    have c0 := (HT.out.below hB13).f.c0
    have hrd := read_any HT.out.d.good.lv hR
    rw [HE.out] at hrd
    have Hg2 : Hid (w1.heap.size ≤ g2) := Lib.hid (Nat.le_trans HB2.out.size hg2)
    have HB13 := Lib.hid hB13
    clear hR hB3 hg2 hB13
    go_wp2_with fail
    refine hrd.mono ?_
    rintro y w4 ⟨hy, hR4, hF4⟩
    obtain ⟨_, gd, pv2, bm2, rfl, hD4⟩ := hy.resolve_right (fun h => h.1 rfl)
    have hB14 := HB13.out.trans (hF4.below HB13.out.size Hg2.out HB13.out.size)
    have hRf4 := (HT.out.below hB14).f
    have hend := end_any _ _ _ _ _ _ _ _ hR4
    simp only [show endE m m 0 = 0 by simp [endE]] at hend
    have HD4 := Lib.hid hD4
    have HRf4 := Lib.hid hRf4
    have HB14 := Lib.hid (hB1.trans (hB14.mono hs1))
    clear hrd hR4 hF4 hB14 hRf4 hD4 c0
    go_wp2_with fail
    refine hend.mono ?_
    rintro e w5 ⟨rfl, j, rfl⟩
    clear hend
    go_wp2_with fail
    refine (like_any (HD4.out.drewN j) (HRf4.out.drewN j)).mono ?_
    rintro e w6 ⟨rfl, hB6⟩
    have hB7 := (below_drewN HB14.out j).trans (hB6.mono HB14.out.size)
    go_wp2_with fail
    refine (dictLives_any _).mono ?_
    rintro e w7 ⟨rfl, hB8⟩
    go_wp2_with fail
    go_ret
    exact ⟨rfl, hB7.trans (hB8.mono hB7.size)⟩
  · obtain ⟨l, hb0⟩ : ∃ l, HasB w w.heap.size a2 len2 cap2 l := ⟨l0, hr0⟩
    have hgt : ¬ (20 : Int) < (len2 : Int) := by omega
    have hcp := hcap
    have hnn : len2 ≤ 20 := by omega
    clear hr0 hlt
    go_enter Try.func5, Try.ntmps5
    go_wp2_with fail
    refine (both_any a0 l1 l2 hL).mono ?_
    rintro e w1 ⟨⟨g, bm, r, n, pv, Lv, Q, rfl, hT⟩, hB1⟩
    have hs1 := hB1.size
    have HT := Lib.hid hT
    have hput := put_any hT.d ((hb0.below hB1 (Nat.le_refl _)).more hs1) (by omega)
    have hln := Lib.hid hb0.len
    obtain ⟨m, hm⟩ : ∃ m, Hid ((encD Q).length = m) := ⟨_, Lib.hid rfl⟩
    have HE := Lib.hid (rdD_put hT.d.good hT.whole)
    have hm2 := encD_len hT.d.good
    rw [hm.out] at HE hm2
    obtain ⟨hm1, hm2⟩ := hm2
    clear hT hb0 hL l1 l2
    go_wp2_with fail
    refine hput.mono ?_
    rintro e w2 ⟨v, rfl, hO, hB2⟩
    have hT2 := Lib.hid (HT.out.below hB2)
    obtain ⟨A', nb, c', rfl, hv, _⟩ := hO.formN
    obtain rfl : nb = m + len2 := by
      have h1 := hv.len
      have h2 := hln.out
      have h3 := hm.out
      rw [List.length_append] at h1
      omega
    have hcv := hv.cap
    have hcmv := hv.capMax
    have hne : ¬ c' = len2 := by omega
    have hD : Hid (HasB w2 w2.heap.size (A'.map (·.add len2)) m (c' - len2) (encD Q)) := Lib.hid (by
      have h1 := cut_is hv (p := len2) (by omega) hne
      have e : (l ++ encD Q).drop len2 = encD Q := by rw [← hln.out]; exact List.drop_left
      rwa [Nat.add_sub_cancel, e] at h1)
    have hnlt : ¬ (m : Int) + (len2 : Int) < (len2 : Int) := by omega
    have hb1 : (len2 : Int) ≤ (m : Int) + (len2 : Int) := by omega
    have hb2 : (m : Int) + (len2 : Int) ≤ (c' : Int) := by omega
    have hb3 : (len2 : Int) ≤ (c' : Int) := by omega
    have HB2 := Lib.hid hB2
    clear hput hO hv hB2
    go_wp2_with fail
    refine (wireNew_any _ _ _ _ _ hD.out (by omega)).mono ?_
    rintro e w3 ⟨g2, A2, c2, rfl, hR, hg2, hB3⟩
    have hB13 := HB2.out.trans (hB3.mono HB2.out.size)
    have c0 := (HT.out.below hB13).f.c0
    have hrd := read_any HT.out.d.good.lv hR
    rw [HE.out] at hrd
    have Hg2 : Hid (w1.heap.size ≤ g2) := Lib.hid (Nat.le_trans HB2.out.size hg2)
    have HB13 := Lib.hid hB13
    clear hR hB3 hg2 hB13
    go_wp2_with fail
    refine hrd.mono ?_
    rintro y w4 ⟨hy, hR4, hF4⟩
    obtain ⟨_, gd, pv2, bm2, rfl, hD4⟩ := hy.resolve_right (fun h => h.1 rfl)
    have hB14 := HB13.out.trans (hF4.below HB13.out.size Hg2.out HB13.out.size)
    have hRf4 := (HT.out.below hB14).f
    have hend := end_any _ _ _ _ _ _ _ _ hR4
    simp only [show endE m m 0 = 0 by simp [endE]] at hend
    have HD4 := Lib.hid hD4
    have HRf4 := Lib.hid hRf4
    have HB14 := Lib.hid (hB1.trans (hB14.mono hs1))
    clear hrd hR4 hF4 hB14 hRf4 hD4 c0
    go_wp2_with fail
    refine hend.mono ?_
    rintro e w5 ⟨rfl, j, rfl⟩
    clear hend
    go_wp2_with fail
    refine (like_any (HD4.out.drewN j) (HRf4.out.drewN j)).mono ?_
    rintro e w6 ⟨rfl, hB6⟩
    have hB7 := (below_drewN HB14.out j).trans (hB6.mono HB14.out.size)
    go_wp2_with fail
    refine (dictLives_any _).mono ?_
    rintro e w7 ⟨rfl, hB8⟩
    go_wp2_with fail
    go_ret
    exact ⟨rfl, hB7.trans (hB8.mono hB7.size)⟩

set_option maxRecDepth 100000 in
theorem lifted (os : Os) (started : os.Started) (H : Type) (enc : TypeId × Value → H) :
    ReturnsInHanded {} Try.checked os 5 .any (Rows.dictRoundSpec.pre6 enc Try.prog Try.f5 Rows.dictRoundRow.domain false) (Rows.dictRoundSpec.post enc Try.prog Try.f5 false true false false) := by
  refine returnsInHanded_of_change (C := Try.checked) own started (by kernel_rfl) Try.func5
    (ChangeSpec.witness6 (enc := enc) (C := Try.checked) false ⟨#[], #[.int .i64 0, .slice none 0 0, .slice none 0 0], []⟩ 8 (by kernel_rfl) (by kernel_rfl) (by kernel_rfl) (by kernel_rfl)) ?_
  intro W base args ds gs before hval0 hW hcnd _
  have hval : ∀ (j : Nat) t v, Try.f5.params[j]? = some t → args[j]? = some v → Value.okWide Try.prog W .any base t v := hval0
  have hW' := hW
  obtain ⟨p, q, hA0, hV, rfl, hfz, hnd⟩ := hW
  have hA : DataW.TrodAll enc Try.prog W 0 (fun _ => true) true Try.f5.params.toList args.toList ds p := hA0
  rw [Try.params5] at hA hval
  obtain ⟨v0, vs0, d0, ds0, p0, q0, hargs, rfl, rfl, h0, r0⟩ := trodAll_cons hA
  obtain ⟨v1, vs1, d1, ds1, p1, q1, rfl, rfl, rfl, h1, r1⟩ := trodAll_cons r0
  obtain ⟨v2, vs2, d2, ds2, p2, q2, rfl, rfl, rfl, h2, r2⟩ := trodAll_cons r1
  obtain ⟨rfl, rfl, rfl⟩ := trodAll_nil r2
  obtain rfl : args = #[v0, v1, v2] := by cases args; simp_all
  obtain ⟨rfl, rfl⟩ := trodVars_none hV
  obtain ⟨a0, rfl, rfl, rfl, w0⟩ := open_int Try.underlying3 (hval 0 3 v0 rfl rfl) h0
  obtain ⟨a1, len1, cap1, rfl⟩ := okWide_slice Try.underlying22 (hval 1 22 v1 rfl rfl)
  have k1 := h1
  have lt1 : ∀ x ∈ p1, x.block < W.heap.size := by obtain ⟨m, hm⟩ := k1; exact DataW.trod_lt m _ _ _ hm
  have w1 : RC Try.prog W 22 [.slice a1 len1 cap1] := by
    obtain ⟨fuel, hf⟩ := h1
    exact ⟨_, _, _, _, _, fuel, _, hf⟩
  obtain ⟨a2, len2, cap2, rfl⟩ := okWide_slice Try.underlying35 (hval 2 35 v2 rfl rfl)
  have k2 := h2
  have lt2 : ∀ x ∈ p2, x.block < W.heap.size := by obtain ⟨m, hm⟩ := k2; exact DataW.trod_lt m _ _ _ hm
  obtain ⟨z2, w2⟩ : ∃ zs, IsRow .u8 W a2 len2 cap2 zs := by
    obtain ⟨fuel, hf⟩ := h2
    rcases open_ints Try.underlying35 Try.underlying5 (by kernel_rfl) hf with ⟨hcs, _⟩ | ⟨x, l, c, zs, hcs, _, hl, hm, hz, _, hcell, hwz⟩
    · simp [Value.cells] at hcs
      obtain ⟨rfl, rfl, rfl⟩ := hcs
      exact ⟨[], .inl ⟨rfl, rfl, rfl, rfl⟩⟩
    · simp [Value.cells] at hcs
      obtain ⟨rfl, rfl, rfl⟩ := hcs
      exact ⟨zs, .inr ⟨_, rfl, hl, hm, by simpa using hz, hcell, hwz⟩⟩
  clear hA0 hval0
  refine (walk a0 a1 len1 cap1 a2 len2 cap2 z2 W w0 w1 w2).mono fun e W' ⟨he, bel⟩ => ?_
  subst he
  exact ⟨_, rfl, _, _, _, [], _, [], hW', trodAll_mk1 (shut_bool Try.underlying4 _), (trodAll_cons_mk (shut_int Try.underlying3 w0) (trodAll_cons_mk (Below.trod laidOut (by kernel_rfl) (of_decide_eq_true (by kernel_rfl)) k1 bel lt1) (trodAll_cons_mk (Below.trod laidOut (by kernel_rfl) (of_decide_eq_true (by kernel_rfl)) k2 bel lt2) trodAll_mk0))), rfl, bel.frame _, fun h => by cases h⟩

theorem over : Rows.dictRoundRow.holds Try.pinned (OpenSpec.ofChange Rows.dictRoundSpec) :=
  OpenClaim.holds_of_wide 5 Try.f5 rfl rfl rfl rfl rfl rfl rfl ⟨rfl, rfl, rfl, rfl, rfl⟩ rfl rfl rfl rfl rfl (by kernel_rfl) Try.func5 (by kernel_rfl)
    (of_decide_eq_true (by kernel_rfl)) (by unfold Func.isWrapper; first | (rw [if_pos (by decide +kernel)]; kernel_rfl) | (rw [if_neg (by decide +kernel)]; exact ⟨rfl, rfl⟩))
    (fun os started H enc _ => lifted os started H enc)

theorem proved : Rows.DictRoundSaid := over
end Go.Proofs.Ytccdjjpkcahgfaa.dictRound
