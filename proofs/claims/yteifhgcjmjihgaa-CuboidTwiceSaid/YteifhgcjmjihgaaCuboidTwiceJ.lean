/-
  Proved: whatever the width and cells (the first 40) and whatever two ways up (the first five lists, of at most 45 codes each), a cuboid that is rolled up twice puts the same bytes as one that is rolled up once by both ways, or both are refused alike; the document's examples hold, and nothing that was handed in is changed. No condition.
-/
import Derived.Test.YteifhgcjmjihgaaJ43
import Derived.Below
import Derived.ChangeOld
import Derived.Deep.DeepCutAuto
import Derived.OpenShut
import Derived.ProofKit
import Derived.ShutString
import Derived.Test.YteifhgcjmjihgaaRows
import Derived.WalkKit
namespace Go.Proofs.Yteifhgcjmjihgaa.cuboidTwice
open Go.ChangeShapes Go.WideShapes Go.ChangeAt Go.RowKit
open Go.ChangeMaps (open_string shut_string)
set_option linter.unusedVariables false

theorem own : ownKnob Try.prog.godebug = none := by kernel_rfl
theorem laidOut : laidOutB Try.prog = true := by kernel_rfl

def IsRow (k : IntKind) (w : World) (a : Option Addr) (len cap : Nat) (zs : List Int) : Prop :=
  (a = none ∧ len = 0 ∧ cap = 0 ∧ zs = []) ∨
  ∃ x, a = some x ∧ len ≤ cap ∧ cap ≤ maxLen ∧ zs.length = cap ∧ (∀ i, i < zs.length → w.cell? (x.add i) = some (.int k (zs.getD i 0))) ∧ ∀ n ∈ zs, (Lit.int k n).wf = true

set_option maxRecDepth 100000 in
set_option maxHeartbeats 2000000 in
theorem walk (a0 : Int) (a1 : Option Addr) (len1 cap1 : Nat) (a2 : Option Addr) (len2 cap2 : Nat) (a3 : Option Addr) (len3 cap3 : Nat) (w : World) (w0 : (Lit.int .i64 a0).wf = true) (w1 : RC Try.prog w 22 [.slice a1 len1 cap1]) (w2 : RC Try.prog w 23 [.slice a2 len2 cap2]) (w3 : RC Try.prog w 23 [.slice a3 len3 cap3]) :
    Calls Try.prog 3 #[.int .i64 a0, .slice a1 len1 cap1, .slice a2 len2 cap2, .slice a3 len3 cap3] w fun e w' => e = .returned (.bool true) ∧ Below w.heap.size w w' := by
  obtain ⟨l1, l2⟩ := i64_of_wf w0
  obtain ⟨D, hD⟩ := deeds_of w1
  obtain ⟨us0, hU0⟩ := ups_of w2
  obtain ⟨vs0, hV0⟩ := ups_of w3
  have hcapD := hD.cap
  have hcmD := hD.capMax
  clear w0 w1 w2 w3
  go_enter Try.func3, Try.ntmps3
  go_wp2_with fail

  refine (lawFew_any hU0).mono ?_
  rintro e v1 ⟨Au, nu, cu, rfl, hU1, hB1⟩
  have hV1 := hV0.belowS hB1
  have HB1 := Lib.hid hB1
  clear hU0 hV0 hB1
  go_wp2_with fail
  refine (lawFew_any hV1).mono ?_
  rintro e v2 ⟨Av, nv, cv, rfl, hV2, hB2⟩
  have HU2 := Lib.hid (hU1.belowS hB2)
  have HV2 := Lib.hid hV2
  have HB2 := Lib.hid (below_then HB1.out hB2)
  have HD2 := Lib.hid (hD.mv elUnd_ok (show Mv w (fun k => k < w.heap.size) v2 (fun k => k < v2.heap.size) from fun k hk hl => ⟨HB2.out.block k hl, Nat.lt_of_lt_of_le hk HB2.out.size⟩))
  obtain ⟨us, hus⟩ : ∃ us, Hid (fewU us0 = us) := ⟨_, Lib.hid rfl⟩
  obtain ⟨vs, hvs⟩ : ∃ vs, Hid (fewU vs0 = vs) := ⟨_, Lib.hid rfl⟩
  rw [hus.out] at HU2
  rw [hvs.out] at HV2
  have h45 : Hid (∀ (t : Nat) (u : List Int), us[t]? = some u → u.length ≤ 45) := Lib.hid fun t u h => fewU_in (us := us0) (by rw [hus.out]; exact h)
  clear hU1 hV1 hV2 hB2 hD HB1
  go_upto_if 30 with fail
  go_cut [1] (fun s wx => ∃ p : Nat, s = .slice a1 p cap1 ∧ p ≤ len1 ∧ v2 = wx)
  case first =>
    by_cases h : (40 : Int) < (len1 : Int)
    · have h2 : (40 : Int) ≤ (cap1 : Int) := by omega
      go_wp2_with fail
      go_meet
      exact ⟨40, rfl, by omega, rfl⟩
    · go_wp2_with fail
      go_meet
      exact ⟨len1, rfl, Nat.le_refl _, rfl⟩
  case rest =>
    obtain ⟨p, rfl, hp, rfl⟩ := hcut
    have hD2 := HD2.out.take_ hp
    obtain ⟨D2, hD2e⟩ : ∃ D2, Hid (D.take p = D2) := ⟨_, Lib.hid rfl⟩
    rw [hD2e.out] at hD2
    go_wp2_with fail
    refine (both_any ⟨l1, l2⟩ ⟨by decide, by decide⟩ hD2).mono ?_
    rintro e v3 ⟨g, b, r, rfl, hP⟩
    obtain ⟨W, hW⟩ : ∃ W, Hid (wideP a0 = W) := ⟨_, Lib.hid rfl⟩
    obtain ⟨m, hm⟩ : ∃ m, Hid (measP 0 = m) := ⟨_, Lib.hid rfl⟩
    rw [hW.out, hm.out] at hP
    obtain ⟨C, hC⟩ : ∃ C, Hid (addsK W m D2 (min p 60) = C) := ⟨_, Lib.hid rfl⟩
    rw [hC.out] at hP
    have HC3 := Lib.hid hP.pc
    have HB3 := Lib.hid (below_then HB2.out hP.bel)
    have HU3 := Lib.hid (HU2.out.belowS hP.bel)
    have HV3 := Lib.hid (HV2.out.belowS hP.bel)
    obtain ⟨R, hR⟩ : ∃ R, Hid (rollK W C us = R) := ⟨_, Lib.hid rfl⟩
    have hroll := cubRoll_any HC3.out HU3.out
    rw [hR.out] at hroll
    have HRo := Lib.hid hroll
    clear hD2 hP hp hroll HU2 HV2 HD2
    go_wp2_with fail
    refine HRo.out.mono ?_
    rintro e v4 ht4
    have HB4 := Lib.hid (below_then HB3.out ht4.below)
    have HC4 := Lib.hid (HC3.out.belowS ht4.below)
    have HU4 := Lib.hid (HU3.out.belowS ht4.below)
    have HV4 := Lib.hid (HV3.out.belowS ht4.below)
    clear HRo
    obtain ⟨_ | A, x⟩ := R
    · obtain ⟨rfl, _⟩ := ht4.none_
      have hx : Hid (x = 1 ∨ x = 14) := Lib.hid (rollK_none hR.out)
      have hx0 : ((x : Int) != 0) = true := by have := hx.out; simp; omega
      clear ht4
      go_wp2_with fail
      refine (cubLives_any _).mono ?_
      rintro y wz ⟨rfl, hBz⟩
      have HBz := Lib.hid (below_then HB4.out hBz)
      clear hBz
      go_wp2_with fail
      go_ret
      exact ⟨rfl, HBz.out⟩

    · obtain rfl : x = 0 := rollK_some hR.out
      obtain ⟨⟨vd, rfl, g1, b1, rfl, hA4, _, _⟩, _⟩ := ht4.some_
      have HA4 := Lib.hid hA4
      have hlu : Hid (us.length = W) := Lib.hid (roll_ups hR.out).1
      obtain ⟨R2, hR2⟩ : ∃ R, Hid (rollK W A vs = R) := ⟨_, Lib.hid rfl⟩
      have hroll := cubRoll_any HA4.out HV4.out
      rw [hR2.out] at hroll
      have HRo := Lib.hid hroll
      clear ht4 hA4 hroll
      go_wp2_with fail
      refine HRo.out.mono ?_
      rintro e v5 ht5
      have HB5 := Lib.hid (below_then HB4.out ht5.below)
      have HC5 := Lib.hid (HC4.out.belowS ht5.below)
      have HU5 := Lib.hid (HU4.out.belowS ht5.below)
      have HV5 := Lib.hid (HV4.out.belowS ht5.below)
      have hpB : ∃ pb : Option Addr, Hid ((∃ f, e = .returned (.tuple #[.pointer pb, .int .i64 f]) ∧ f = R2.2) ∧ ((pb = none ∧ R2.1 = none) ∨ (∃ gB bB B, pb = some ⟨gB, 0, none⟩ ∧ R2.1 = some B ∧ Cb v5 gB bB W m B))) := by
        obtain ⟨_ | B, f⟩ := R2
        · obtain ⟨rfl, _⟩ := ht5.none_
          exact ⟨none, Lib.hid ⟨⟨f, rfl, rfl⟩, .inl ⟨rfl, rfl⟩⟩⟩
        · obtain ⟨⟨vd, rfl, gB, bB, rfl, hBc, _, _⟩, _⟩ := ht5.some_
          exact ⟨_, Lib.hid ⟨⟨f, rfl, rfl⟩, .inr ⟨gB, bB, B, rfl, rfl, hBc⟩⟩⟩
      obtain ⟨pb, hpb⟩ := hpB
      obtain ⟨f, rfl, hf⟩ := hpb.out.1
      have HPB := Lib.hid hpb.out.2
      have Hf := Lib.hid hf
      clear ht5 HRo hpb hf
      by_cases hf1 : f = 1
      · subst hf1
        have hpn : pb = none := by
          rcases HPB.out with h | ⟨gB, bB, B, _, h2, _⟩
          · exact h.1
          · have h3 := hR2.out
            have h4 : R2 = (some B, 1) := Prod.ext h2 Hf.out.symm
            rw [h4] at h3
            exact absurd (rollK_some h3) (by decide)
        subst hpn
        go_wp2_with fail
        refine (cubLives_any _).mono ?_
        rintro y wz ⟨rfl, hBz⟩
        have HBz := Lib.hid (below_then HB5.out hBz)
        clear hBz
        go_wp2_with fail
        go_ret
        exact ⟨rfl, HBz.out⟩

      · have hfe : ((f : Int) == 1) = false := by simpa using hf1
        have hlv : Hid (vs.length = W) := Lib.hid (roll_len (by rw [hR2.out, ← Hf.out]; exact hf1))
        have hway : Hid (rollK W C (bothW us vs) = R2) := Lib.hid (by rw [roll_twice HC3.out.ok hR.out (by rw [hR2.out, ← Hf.out]; exact hf1), hR2.out])
        have hnu : Hid (us.length = nu) := Lib.hid HU5.out.len
        have hnv : Hid (vs.length = nv) := Lib.hid HV5.out.len
        have hW3 := HC3.out.w3
        have hnu3 : nu ≤ 3 := by have := hnu.out; have := hlu.out; omega
        have hnuv : nu = nv := by have := hnu.out; have := hlu.out; have := hnv.out; have := hlv.out; omega
        clear hf1
        go_wp2_with fail
        clear hfe
        go_loopw [16, 17] (fun v i wr => ∃ t : Nat, t ≤ nu ∧ i = .int .i64 t ∧ Hid (OwnR elInts 33 1 wr v5.heap.size (fun k => v5.heap.size ≤ k) v ((bothW us vs).take t) ∧ Below v5.heap.size v5 wr)) (fun _ i _ => nu - (intOf i).toNat)
        case atStart => exact ⟨0, Nat.zero_le _, rfl, Lib.hid ⟨by simpa using OwnR.nil_ _ _ _, Below.refl _ _⟩⟩
        case round =>
          obtain ⟨t, ht, rfl, HO⟩ := hrel
          by_cases hlt : t < nu
          · obtain ⟨bu, ou, A', n', c', u, rfl, hbu, ku', hIu, hu⟩ := HU5.out.at_ hlt
            obtain ⟨bv, ov, A'', n'', c'', vv, rfl, hbv, kv', hIv, hv⟩ := HV5.out.at_ (k := t) (by omega)
            have i0 : (0 : Int) ≤ (t : Int) := by omega
            have i1 : (t : Int) < (nu : Int) := by omega
            have i1v : (t : Int) < (nv : Int) := by omega
            have hut : Hid (us[t]? = some u) := Lib.hid (by
              have h1 : t < us.length := by rw [hnu.out]; exact hlt
              rw [hu.out, List.getD_eq_getElem?_getD, List.getElem?_eq_getElem h1]; rfl)
            have hvt : Hid (vs[t]? = some vv) := Lib.hid (by
              have h1 : t < vs.length := by rw [hnv.out]; omega
              rw [hv.out, List.getD_eq_getElem?_getD, List.getElem?_eq_getElem h1]; rfl)
            have hwt := Lib.hid (bothW_at hut.out hvt.out)
            have KK : Hid (∀ y : World, Below v5.heap.size v5 y → y.cell? ⟨bu, ou + t, none⟩ = some (.slice A' n' c') ∧ y.cell? ⟨bv, ov + t, none⟩ = some (.slice A'' n'' c'')) := Lib.hid fun y hy => ⟨(hy.cell (p := ⟨bu, ou + t, none⟩) hbu).trans ku', (hy.cell (p := ⟨bv, ov + t, none⟩) hbv).trans kv'⟩
            have HIu := Lib.hid hIu
            have HIv := Lib.hid hIv
            have hn' : Hid (u.length = n') := Lib.hid hIu.len
            have hn'' : Hid (vv.length = n'') := Lib.hid hIv.len
            have hn45 : n' ≤ 45 := by have h1 := h45.out t u hut.out; have h2 := hn'.out; omega
            have hvm := hIv.lenMax
            clear ku' kv' hIu hIv hbu hbv hu hv
            obtain ⟨wo, rfl⟩ : ∃ wo, wo = wr := ⟨_, rfl⟩
            go_wp2_with fail
            go_loopw [18, 19] (fun v i wr => ∃ s : Nat, s ≤ n' ∧ i = .int .i64 s ∧ Hid (OwnI wr wo.heap.size v ((bothU u vv).take s) ∧ Below wo.heap.size wo wr)) (fun _ i _ => n' - (intOf i).toNat)
            case atStart => exact ⟨0, Nat.zero_le _, rfl, Lib.hid ⟨by simpa using OwnI.nil_ _ _, Below.refl _ _⟩⟩
            case round =>
              obtain ⟨s, hs, rfl, H2⟩ := hrel
              have HBr : Hid (Below v5.heap.size v5 wr) := Lib.hid (HO.out.2.trans (H2.out.2.mono HO.out.2.size))
              obtain ⟨ku, kv⟩ := KK.out wr HBr.out
              by_cases hls : s < n'
              · obtain ⟨bx, ox, x, rfl, _, cx, ex⟩ := (HIu.out.below HBr.out (Nat.le_refl _)).at_ hls
                have i2 : (0 : Int) ≤ (s : Int) := by omega
                have i3 : (s : Int) < (n' : Int) := by omega
                have hxs : Hid (u[s]? = some x) := Lib.hid (by
                  have h1 : s < u.length := by rw [hn'.out]; exact hls
                  rw [ex.out, List.getD_eq_getElem?_getD, List.getElem?_eq_getElem h1]; rfl)
                have hln : Hid (((bothU u vv).take s).length ≤ 1000000) := Lib.hid (by rw [List.length_take]; omega)
                clear ex
                by_cases hx0 : 0 ≤ x
                · have d1 : decide (0 ≤ x) = true := decide_eq_true hx0
                  by_cases hxv : x < (n'' : Int)
                  · have d2 : decide (x < (n'' : Int)) = true := decide_eq_true hxv
                    obtain ⟨xn, rfl⟩ : ∃ n : Nat, x = n := ⟨x.toNat, by omega⟩
                    have hxn : xn < n'' := by omega
                    obtain ⟨by', oy, y, rfl, _, cy, ey⟩ := (HIv.out.below HBr.out (Nat.le_refl _)).at_ hxn
                    have HEy := Lib.hid ey.out
                    clear ey
                    have hbt := Lib.hid (bothU_at (v := vv) hxs.out)
                    rw [if_pos ⟨by omega, by rw [hn''.out]; omega⟩, Int.toNat_natCast, ← HEy.out] at hbt
                    go_wp2_with (at_builtin; refine wpList_appI rfl _ _ rfl wo.heap.size _ _ rfl (H2.out.1.alloc (.cells #[.int .i64 y] 3)) _ rfl (y) (cell_lit _ _ _ _ (by simp)) hln.out (H2.out.2.alloc H2.out.2.size (.cells #[.int .i64 y] 3)).size ?_; intro v8 w8 hO8 hG8)
                    have HF : Hid (OwnI w8 wo.heap.size v8 ((bothU u vv).take (s + 1)) ∧ Below wo.heap.size wo w8) := Lib.hid ⟨by rw [← takeG_more hbt.out]; exact hO8, (H2.out.2.alloc H2.out.2.size _).trans (hG8.below_ (H2.out.2.alloc H2.out.2.size _).size fun q e => (H2.out.1.lt q e).1)⟩
                    clear hO8 hG8
                    go_wp2_with fail
                    go_roundw
                    case rel => exact ⟨s + 1, by omega, by go_num, HF⟩
                    case measure => simp [intOf]; omega
                  · have d2 : decide (x < (n'' : Int)) = false := decide_eq_false hxv
                    have hbt := Lib.hid (bothU_at (v := vv) hxs.out)
                    rw [if_neg (fun h => hxv (by rw [← hn''.out]; exact h.2))] at hbt
                    go_wp2_with (at_builtin; refine wpList_appI rfl _ _ rfl wo.heap.size _ _ rfl (H2.out.1.alloc (.cells #[.int .i64 (-1)] 3)) _ rfl ((-1)) (cell_lit _ _ _ _ (by simp)) hln.out (H2.out.2.alloc H2.out.2.size (.cells #[.int .i64 (-1)] 3)).size ?_; intro v8 w8 hO8 hG8)
                    have HF : Hid (OwnI w8 wo.heap.size v8 ((bothU u vv).take (s + 1)) ∧ Below wo.heap.size wo w8) := Lib.hid ⟨by rw [← takeG_more hbt.out]; exact hO8, (H2.out.2.alloc H2.out.2.size _).trans (hG8.below_ (H2.out.2.alloc H2.out.2.size _).size fun q e => (H2.out.1.lt q e).1)⟩
                    clear hO8 hG8
                    go_wp2_with fail
                    go_roundw
                    case rel => exact ⟨s + 1, by omega, by go_num, HF⟩
                    case measure => simp [intOf]; omega
                · have d1 : decide (0 ≤ x) = false := decide_eq_false hx0
                  have hbt := Lib.hid (bothU_at (v := vv) hxs.out)
                  rw [if_neg (fun h => hx0 h.1)] at hbt
                  go_wp2_with (at_builtin; refine wpList_appI rfl _ _ rfl wo.heap.size _ _ rfl (H2.out.1.alloc (.cells #[.int .i64 (-1)] 3)) _ rfl ((-1)) (cell_lit _ _ _ _ (by simp)) hln.out (H2.out.2.alloc H2.out.2.size (.cells #[.int .i64 (-1)] 3)).size ?_; intro v8 w8 hO8 hG8)
                  have HF : Hid (OwnI w8 wo.heap.size v8 ((bothU u vv).take (s + 1)) ∧ Below wo.heap.size wo w8) := Lib.hid ⟨by rw [← takeG_more hbt.out]; exact hO8, (H2.out.2.alloc H2.out.2.size _).trans (hG8.below_ (H2.out.2.alloc H2.out.2.size _).size fun q e => (H2.out.1.lt q e).1)⟩
                  clear hO8 hG8
                  go_wp2_with fail
                  go_roundw
                  case rel => exact ⟨s + 1, by omega, by go_num, HF⟩
                  case measure => simp [intOf]; omega
              · have hF0 : (bothU u vv).take s = bothU u vv := List.take_of_length_le (by rw [bothU_len, hn'.out]; omega)
                have hOb := H2.out.1
                rw [hF0] at hOb
                obtain ⟨E, e', rfl, hrow⟩ := hOb.row
                obtain ⟨ne, hne⟩ : ∃ ne, Hid ((bothU u vv).length = ne) := ⟨_, Lib.hid rfl⟩
                rw [hne.out] at hrow ⊢
                have HT := Lib.hid (And.intro (HO.out.1.below elInts_ok H2.out.2) HBr.out)
                have HE : Hid (∀ ob : Obj, elInts (wr.alloc ob) (fun q => v5.heap.size ≤ q ∧ u16.ownBlock ≠ some q) [.slice E ne e'] (bothU u vv)) := Lib.hid fun ob => ⟨E, ne, e', rfl, hrow.mv elInt_ok ((Mv.to wr fun b hb _ => ⟨Nat.le_trans HO.out.2.size hb.1, fun ee => by have := (HO.out.1.lt b ee).2; omega⟩).trans (Mv.alloc wr ob _))⟩
                have hlen : Hid (((bothW us vs).take t).length ≤ 1000000) := Lib.hid (by rw [List.length_take]; omega)
                clear hF0 hOb hrow H2
                go_wp2_with (at_builtin; refine wpList_appX elInts_ok rfl _ _ rfl info_ints Try.underlying23 rfl (by decide) v5.heap.size _ _ _ rfl (HT.out.1.alloc elInts_ok (.cells #[.slice E ne e'] 33)) _ rfl [.slice E ne e'] rfl (bothU u vv) (lit_at _ [.slice E ne e'] _) (by simp; rfl) (HE.out _) hlen.out (HT.out.2.alloc HT.out.2.size (.cells #[.slice E ne e'] 33)).size ?_; intro v8 w8 hO8 hG8)
                have hF : Hid (OwnR elInts 33 1 w8 v5.heap.size (fun k => v5.heap.size ≤ k) v8 ((bothW us vs).take (t + 1)) ∧ Below v5.heap.size v5 w8) := Lib.hid ⟨by rw [← takeG_more hwt.out]; exact hO8, (HT.out.2.alloc HT.out.2.size _).trans (hG8.below_ (HT.out.2.alloc HT.out.2.size _).size fun q e => (HT.out.1.lt q e).1)⟩
                clear hO8 hG8 ku kv
                go_wp2_with fail
                go_roundw
                case rel => exact ⟨t + 1, by omega, by go_num, hF⟩
                case measure => simp [intOf]; omega
          · have hF0 : (bothW us vs).take t = bothW us vs := List.take_of_length_le (by rw [bothW_len (by rw [hlu.out, hlv.out]), hnu.out]; omega)
            have hO := HO.out.1
            rw [hF0] at hO
            obtain ⟨Aw, cw, rfl, hrw⟩ := hO.read elInts_ok
            obtain ⟨nw, hnw⟩ : ∃ nw, Hid ((bothW us vs).length = nw) := ⟨_, Lib.hid rfl⟩
            rw [hnw.out] at hrw ⊢
            have HB6 := Lib.hid (below_then HB5.out HO.out.2)
            have HPB6 : Hid ((pb = none ∧ R2.1 = none) ∨ (∃ gB bB B, pb = some ⟨gB, 0, none⟩ ∧ R2.1 = some B ∧ Cb wr gB bB W m B)) := Lib.hid (by
              rcases HPB.out with h | ⟨gB, bB, B, h1, h2, h3⟩
              · exact .inl h
              · exact .inr ⟨gB, bB, B, h1, h2, h3.belowS HO.out.2⟩)
            have hroll := cubRoll_any (HC5.out.belowS HO.out.2) hrw.hasL
            rw [hway.out] at hroll
            have HRo := Lib.hid hroll
            have hff : ((f : Int) != f) = false := by simp
            clear hF0 hO hrw hroll HO HPB
            go_wp2_with fail
            refine HRo.out.mono ?_
            rintro e v7 ht7
            have HB7 := Lib.hid (below_then HB6.out ht7.below)
            have HX7 := Lib.hid ht7.below
            obtain ⟨R1, x2⟩ := R2
            obtain rfl : f = x2 := Hf.out
            clear HRo
            rcases HPB6.out with ⟨rfl, h2⟩ | ⟨gB, bB, B, rfl, h2, h3⟩
            · obtain rfl : R1 = none := h2
              obtain ⟨rfl, _⟩ := ht7.none_
              clear ht7
              go_wp2_with fail
              refine (cubLives_any _).mono ?_
              rintro y wz ⟨rfl, hBz⟩
              have HBz := Lib.hid (below_then HB7.out hBz)
              clear hBz
              go_wp2_with fail
              go_ret
              exact ⟨rfl, HBz.out⟩

            · obtain rfl : R1 = some B := h2
              obtain ⟨⟨vd, rfl, gE, bE, rfl, hE7, _, _⟩, _⟩ := ht7.some_
              have hp1 := Lib.hid (put_any (h3.belowS HX7.out))
              have HE7 := Lib.hid hE7
              clear ht7 h3 hE7
              go_wp2_with fail
              refine hp1.out.mono ?_
              rintro y wa ⟨va, rfl, hOa, hBa⟩
              have hp2 := Lib.hid (put_any (HE7.out.belowS hBa))
              obtain ⟨Aa, na, ca, rfl, hha, _⟩ := hOa.formN
              have HHa := Lib.hid hha
              have HBa := Lib.hid (below_then HB7.out hBa)
              clear hp1 hOa hBa hha
              go_wp2_with fail
              refine hp2.out.mono ?_
              rintro y wb ⟨vb, rfl, hOb, hBb⟩
              obtain ⟨Ab, nb, cb, rfl, hhb, _⟩ := hOb.formN
              have hsm := same_any Aa Ab na ca nb cb _ _ wb _ _ (HHa.out.below hBb (Nat.le_refl _)) hhb
              rw [show (encC m B == encC m B) = true by simp] at hsm
              have HSM := Lib.hid hsm
              have HBb := Lib.hid (below_then HBa.out hBb)
              clear hp2 hOb hhb hBb hsm
              go_wp2_with fail
              refine HSM.out.mono ?_
              rintro y wc ⟨rfl, nq, rfl⟩
              have HBq := Lib.hid (below_drewN HBb.out nq)
              clear HSM
              go_wp2_with fail
              refine (cubLives_any _).mono ?_
              rintro y wz ⟨rfl, hBz⟩
              have HBz := Lib.hid (below_then HBq.out hBz)
              clear hBz
              go_wp2_with fail
              go_ret
              exact ⟨rfl, HBz.out⟩

set_option maxRecDepth 100000 in
theorem lifted (os : Os) (started : os.Started) (H : Type) (enc : TypeId × Value → H) :
    ReturnsInHanded {} Try.checked os 3 .any (Rows.cuboidTwiceSpec.pre6 enc Try.prog Try.f3 Rows.cuboidTwiceRow.domain false) (Rows.cuboidTwiceSpec.post enc Try.prog Try.f3 false true false false) := by
  refine returnsInHanded_of_change (C := Try.checked) own started (by kernel_rfl) Try.func3
    (ChangeSpec.witness6 (enc := enc) (C := Try.checked) false ⟨#[], #[.int .i64 0, .slice none 0 0, .slice none 0 0, .slice none 0 0], []⟩ 8 (by kernel_rfl) (by kernel_rfl) (by kernel_rfl) (by kernel_rfl)) ?_
  intro W base args ds gs before hval0 hW hcnd _
  have hval : ∀ (j : Nat) t v, Try.f3.params[j]? = some t → args[j]? = some v → Value.okWide Try.prog W .any base t v := hval0
  have hW' := hW
  obtain ⟨p, q, hA0, hV, rfl, hfz, hnd⟩ := hW
  have hA : DataW.TrodAll enc Try.prog W 0 (fun _ => true) true Try.f3.params.toList args.toList ds p := hA0
  rw [Try.params3] at hA hval
  obtain ⟨v0, vs0, d0, ds0, p0, q0, hargs, rfl, rfl, h0, r0⟩ := trodAll_cons hA
  obtain ⟨v1, vs1, d1, ds1, p1, q1, rfl, rfl, rfl, h1, r1⟩ := trodAll_cons r0
  obtain ⟨v2, vs2, d2, ds2, p2, q2, rfl, rfl, rfl, h2, r2⟩ := trodAll_cons r1
  obtain ⟨v3, vs3, d3, ds3, p3, q3, rfl, rfl, rfl, h3, r3⟩ := trodAll_cons r2
  obtain ⟨rfl, rfl, rfl⟩ := trodAll_nil r3
  obtain rfl : args = #[v0, v1, v2, v3] := by cases args; simp_all
  obtain ⟨rfl, rfl⟩ := trodVars_none hV
  obtain ⟨a0, rfl, rfl, rfl, w0⟩ := open_int Try.underlying3 (hval 0 3 v0 rfl rfl) h0
  obtain ⟨a1, len1, cap1, rfl⟩ := okWide_slice Try.underlying22 (hval 1 22 v1 rfl rfl)
  have k1 := h1
  have lt1 : ∀ x ∈ p1, x.block < W.heap.size := by obtain ⟨m, hm⟩ := k1; exact DataW.trod_lt m _ _ _ hm
  have w1 : RC Try.prog W 22 [.slice a1 len1 cap1] := by
    obtain ⟨fuel, hf⟩ := h1
    exact ⟨_, _, _, _, _, fuel, _, hf⟩
  obtain ⟨a2, len2, cap2, rfl⟩ := okWide_slice Try.underlying23 (hval 2 23 v2 rfl rfl)
  have k2 := h2
  have lt2 : ∀ x ∈ p2, x.block < W.heap.size := by obtain ⟨m, hm⟩ := k2; exact DataW.trod_lt m _ _ _ hm
  have w2 : RC Try.prog W 23 [.slice a2 len2 cap2] := by
    obtain ⟨fuel, hf⟩ := h2
    exact ⟨_, _, _, _, _, fuel, _, hf⟩
  obtain ⟨a3, len3, cap3, rfl⟩ := okWide_slice Try.underlying23 (hval 3 23 v3 rfl rfl)
  have k3 := h3
  have lt3 : ∀ x ∈ p3, x.block < W.heap.size := by obtain ⟨m, hm⟩ := k3; exact DataW.trod_lt m _ _ _ hm
  have w3 : RC Try.prog W 23 [.slice a3 len3 cap3] := by
    obtain ⟨fuel, hf⟩ := h3
    exact ⟨_, _, _, _, _, fuel, _, hf⟩
  clear hA0 hval0
  refine (walk a0 a1 len1 cap1 a2 len2 cap2 a3 len3 cap3 W w0 w1 w2 w3).mono fun e W' ⟨he, bel⟩ => ?_
  subst he
  exact ⟨_, rfl, _, _, _, [], _, [], hW', trodAll_mk1 (shut_bool Try.underlying4 _), (trodAll_cons_mk (shut_int Try.underlying3 w0) (trodAll_cons_mk (Below.trod laidOut (by kernel_rfl) (of_decide_eq_true (by kernel_rfl)) k1 bel lt1) (trodAll_cons_mk (Below.trod laidOut (by kernel_rfl) (of_decide_eq_true (by kernel_rfl)) k2 bel lt2) (trodAll_cons_mk (Below.trod laidOut (by kernel_rfl) (of_decide_eq_true (by kernel_rfl)) k3 bel lt3) trodAll_mk0)))), rfl, bel.frame _, fun h => by cases h⟩

theorem over : Rows.cuboidTwiceRow.holds Try.pinned (OpenSpec.ofChange Rows.cuboidTwiceSpec) :=
  OpenClaim.holds_of_wide 3 Try.f3 rfl rfl rfl rfl rfl rfl rfl ⟨rfl, rfl, rfl, rfl, rfl⟩ rfl rfl rfl rfl rfl (by kernel_rfl) Try.func3 (by kernel_rfl)
    (of_decide_eq_true (by kernel_rfl)) (by unfold Func.isWrapper; first | (rw [if_pos (by decide +kernel)]; kernel_rfl) | (rw [if_neg (by decide +kernel)]; exact ⟨rfl, rfl⟩))
    (fun os started H enc _ => lifted os started H enc)

theorem proved : Rows.CuboidTwiceSaid := over
end Go.Proofs.Yteifhgcjmjihgaa.cuboidTwice
