/-
  Proved: whatever the widths, measures and cells (the first 30), a cuboid stays as it was, though cells (the first 30) are added to its copy, and what Keys and Get tell is written over; the document's examples hold, and nothing that was handed in is changed. No condition.
-/
import Derived.Test.YteifhgcjmjihgaaGreatJ43
import Derived.Test.YteifhgcjmjihgaaGreatJ45
import Derived.Below
import Derived.ChangeOld
import Derived.Deep.DeepCutAuto
import Derived.Deep.RegionHeld3
import Derived.OpenShut
import Derived.ProofKit
import Derived.ShutString
import Derived.Test.YteifhgcjmjihgaaGreatRows
import Derived.WalkKit
namespace Go.Proofs.YteifhgcjmjihgaaGreat.cuboidOwns
open Go.ChangeShapes Go.WideShapes Go.ChangeAt Go.RowKit
open Go.ChangeMaps (open_string shut_string)
set_option linter.unusedVariables false

theorem own : ownKnob Tryz.prog.godebug = none := by kernel_rfl
theorem laidOut : laidOutB Tryz.prog = true := by kernel_rfl

def IsRow (k : IntKind) (w : World) (a : Option Addr) (len cap : Nat) (zs : List Int) : Prop :=
  (a = none ∧ len = 0 ∧ cap = 0 ∧ zs = []) ∨
  ∃ x, a = some x ∧ len ≤ cap ∧ cap ≤ maxLen ∧ zs.length = cap ∧ (∀ i, i < zs.length → w.cell? (x.add i) = some (.int k (zs.getD i 0))) ∧ ∀ n ∈ zs, (Lit.int k n).wf = true

set_option maxRecDepth 100000 in
set_option maxHeartbeats 2000000 in
theorem walk (a0 : Int) (a1 : Int) (a2 : Option Addr) (len2 cap2 : Nat) (a3 : Option Addr) (len3 cap3 : Nat) (w : World) (w0 : (Lit.int .i64 a0).wf = true) (w1 : (Lit.int .i64 a1).wf = true) (w2 : RC Tryz.prog w 22 [.slice a2 len2 cap2]) (w3 : RC Tryz.prog w 22 [.slice a3 len3 cap3]) :
    Calls Tryz.prog 7 #[.int .i64 a0, .int .i64 a1, .slice a2 len2 cap2, .slice a3 len3 cap3] w fun e w' => e = .returned (.bool true) ∧ Below w.heap.size w w' := by
  obtain ⟨l1, l2⟩ := i64_of_wf w0
  obtain ⟨l3, l4⟩ := i64_of_wf w1
  obtain ⟨D, hD⟩ := deeds_of w2
  obtain ⟨M0, hM0⟩ := deeds_of w3
  have hcap2 := hD.cap
  have hcm2 := hD.capMax
  clear w0 w1 w2 w3
  go_enter Tryz.func7, Tryz.ntmps7
  go_upto_if 24 with fail
  go_cut [2] (fun s wx => ∃ p : Nat, s = .slice a2 p cap2 ∧ p ≤ len2 ∧ w = wx)
  case first =>
    by_cases h : (30 : Int) < (len2 : Int)
    · have h2 : (30 : Int) ≤ (cap2 : Int) := by omega
      go_wp2_with fail
      go_meet
      exact ⟨30, rfl, by omega, rfl⟩
    · go_wp2_with fail
      go_meet
      exact ⟨len2, rfl, Nat.le_refl _, rfl⟩
  case rest =>
    obtain ⟨p, rfl, hp, rfl⟩ := hcut
    have hD2 := hD.take_ hp
    obtain ⟨D2, hD2e⟩ : ∃ D2, Hid (D.take p = D2) := ⟨_, Lib.hid rfl⟩
    rw [hD2e.out] at hD2
    clear hD
    go_wp2_with fail
    refine (both_any ⟨l1, l2⟩ ⟨l3, l4⟩ hD2).mono ?_
    rintro e v2 ⟨g, b, r, rfl, hP⟩
    obtain ⟨W, hW⟩ : ∃ W, Hid (wideP a0 = W) := ⟨_, Lib.hid rfl⟩
    obtain ⟨m, hm⟩ : ∃ m, Hid (measP a1 = m) := ⟨_, Lib.hid rfl⟩
    rw [hW.out, hm.out] at hP

    obtain ⟨C, hC⟩ : ∃ C, Hid (addsK W m D2 (min p 60) = C) := ⟨_, Lib.hid rfl⟩
    rw [hC.out] at hP
    have HP := Lib.hid hP
    have HM := Lib.hid (hM0.mv elUnd_ok (show Mv w (fun k => k < w.heap.size) v2 (fun k => k < w.heap.size) from fun k hk hl => ⟨hP.bel.block k hl, hk⟩))
    have hcap3 := hM0.cap
    have hcm3 := hM0.capMax
    obtain ⟨Ar, nr, cr, hRq⟩ := hP.pr
    have HRq := Lib.hid hRq
    have hcp := Lib.hid (cubCopy_any hP.pc)
    clear hP hD2 hM0 hRq hp
    go_wp2_with fail
    refine hcp.out.mono ?_
    rintro e v3 ⟨⟨vd, rfl, gd, bd, rfl, hCd, hgd, hbd⟩, hb3⟩
    have HB3 := Lib.hid hb3
    have Hd : Hid (v2.heap.size ≤ gd ∧ v2.heap.size ≤ bd) := Lib.hid ⟨hgd, hbd⟩
    have HCd := Lib.hid hCd
    clear hCd hgd hbd hb3 hcp
    go_wp2_with fail
    go_loopw [13] (fun i wr => ∃ (t : Nat) (Cd : Cub), t ≤ len3 ∧ t ≤ 30 ∧ i = .int .i64 t ∧ Hid (Cb wr gd bd W m Cd ∧ Below v2.heap.size v2 wr)) (fun i _ => len3 - (intOf i).toNat)
    case atStart => exact ⟨0, C, Nat.zero_le _, by omega, rfl, Lib.hid ⟨HCd.out, HB3.out⟩⟩
    case round =>
      obtain ⟨t, Cd, ht, ht3, rfl, HO⟩ := hrel
      go_upto_region 10 with fail
      go_cut [48] (fun c wx => wr = wx ∧ ((c = .bool true ∧ t < len3 ∧ t < 30) ∨ (c = .bool false ∧ ¬ (t < len3 ∧ t < 30))))
      case first =>
        by_cases h1 : t < len3
        · have h1i : (t : Int) < (len3 : Int) := by omega
          by_cases h2 : t < 30
          · have h2i : (t : Int) < 30 := by omega
            go_wp2_with fail
            go_meet
            exact ⟨rfl, .inl ⟨rfl, h1, h2⟩⟩
          · have h2i : ¬ (t : Int) < 30 := by omega
            go_wp2_with fail
            go_meet
            exact ⟨rfl, .inr ⟨rfl, fun h => h2 h.2⟩⟩
        · have h1i : ¬ (t : Int) < (len3 : Int) := by omega
          go_wp2_with fail
          go_meet
          exact ⟨rfl, .inr ⟨rfl, fun h => h1 h.1⟩⟩
      case rest =>
        obtain ⟨rfl, hc⟩ := hcut
        rcases hc with ⟨rfl, hlt, h30⟩ | ⟨rfl, hno⟩
        · obtain ⟨bm, o, A0, n0, c0, q, A1, n1, c1, A2, n2, c2, A3, n3, c3, K, Su, M, X, rfl, hbS, hbl, g0, g1, g2, g3, g4, hK0, hSu, hM, hX, hCj⟩ := HM.out.atU hlt
          have i0 : (0 : Int) ≤ (t : Int) := by omega
          have i1 : (t : Int) < (len3 : Int) := by omega
          have KK : Hid (∀ y : World, Below v2.heap.size v2 y → y.cell? ⟨bm, o + t * 5, none⟩ = some (.slice A0 n0 c0) ∧ y.cell? ⟨bm, o + t * 5 + 1, none⟩ = some (.int .i64 q) ∧ y.cell? ⟨bm, o + t * 5 + 2, none⟩ = some (.slice A1 n1 c1) ∧ y.cell? ⟨bm, o + t * 5 + 3, none⟩ = some (.slice A2 n2 c2) ∧ y.cell? ⟨bm, o + t * 5 + 4, none⟩ = some (.slice A3 n3 c3)) := Lib.hid fun y hy =>
            ⟨(hy.cell (p := ⟨bm, o + t * 5, none⟩) hbl).trans g0, (hy.cell (p := ⟨bm, o + t * 5 + 1, none⟩) hbl).trans g1, (hy.cell (p := ⟨bm, o + t * 5 + 2, none⟩) hbl).trans g2, (hy.cell (p := ⟨bm, o + t * 5 + 3, none⟩) hbl).trans g3, (hy.cell (p := ⟨bm, o + t * 5 + 4, none⟩) hbl).trans g4⟩
          have hBd : Below v2.heap.size v2 wr.drew := below_drewN HO.out.2 1
          have hadd := Lib.hid (cubAdd_any (q := q) (HO.out.1.drewN 1) ((hK0.mv elInt_ok (Mv.belowS hBd _)).hasI) ⟨(hSu.mv elInt_ok (Mv.belowS hBd _)).hasI, (hM.mv elInt_ok (Mv.belowS hBd _)).hasI, (hX.mv elInt_ok (Mv.belowS hBd _)).hasI⟩)
          obtain ⟨R, hR⟩ : ∃ R, Hid (addK W m Cd K (q, Su, M, X) = R) := ⟨_, Lib.hid rfl⟩
          rw [hR.out] at hadd
          obtain ⟨C2, er⟩ := R
          obtain ⟨k0, k1, k2, k3, k4⟩ := KK.out wr HO.out.2
          clear hbS hbl g0 g1 g2 g3 g4 hK0 hSu hM hX hBd
          go_wp2_with fail
          go_region_held3 (fun w' => w'.cell? ⟨bm, o + t * 5, none⟩ = some (.slice A0 n0 c0) ∧ w'.cell? ⟨bm, o + t * 5 + 1, none⟩ = some (.int .i64 q) ∧ w'.cell? ⟨bm, o + t * 5 + 2, none⟩ = some (.slice A1 n1 c1) ∧ w'.cell? ⟨bm, o + t * 5 + 3, none⟩ = some (.slice A2 n2 c2) ∧ w'.cell? ⟨bm, o + t * 5 + 4, none⟩ = some (.slice A3 n3 c3))
            (first
              | with_reducible exact KK.out _ hBz
              | go_keep)
            (first
              | (go_at_call 26; refine hadd.out.mono ?_; rintro e z1 ⟨rfl, hC1, hG1⟩; have hBz := below_grown_new HO.out.2 (grownBy_trans (grown_of (below_drewN (Below.refl _ wr) 1) _) hG1 (fun _ h => .inl h)) Hd.out.2))
          all_goals
            have HF : Hid (Cb z1 gd bd W m C2 ∧ Below v2.heap.size v2 z1) := Lib.hid ⟨hC1, hBz⟩
            clear hC1 hG1 hBz k0 k1 k2 k3 k4 hadd
            go_wp2_with fail
            go_roundw
            case rel => exact ⟨t + 1, C2, by omega, by omega, by go_num, HF⟩
            case measure => simp [intOf]; omega
        · have HB4 := Lib.hid HO.out.2
          have hks := Lib.hid (keys_any (HP.out.pc.belowS HO.out.2))
          obtain ⟨wc, rfl⟩ : ∃ wc, wc = wr := ⟨_, rfl⟩
          clear HO hno
          go_wp2_with fail
          refine hks.out.mono ?_
          rintro e w5 ⟨v, rfl, hO5, hB5⟩
          obtain ⟨base, hbase⟩ : ∃ base, Hid (wc.heap.size = base) := ⟨_, Lib.hid rfl⟩
          have hrw := rowsI_of hO5
          obtain ⟨AK, cK, rfl⟩ := hO5.shape
          rw [hbase.out] at hrw
          obtain ⟨nk, hnk⟩ : ∃ nk, Hid ((C.map (·.1)).length = nk) := ⟨_, Lib.hid rfl⟩
          rw [hnk.out] at hrw ⊢
          have hkc : nk ≤ cK ∧ cK ≤ 9223372036854775807 := by
            obtain ⟨_, _, _, e, h1, h2, _⟩ := id hrw
            injection e with ea eb ec
            subst ea eb ec
            exact ⟨h1, by unfold maxLen at h2; omega⟩
          have hk1 := hkc.1
          have hk2 := hkc.2
          have HW : Hid (Ow w5 w5 base (.slice AK nk cK)) := Lib.hid ⟨Below.refl _ _, hrw⟩
          have H5 : Hid (Below v2.heap.size v2 w5 ∧ base ≤ w5.heap.size ∧ v2.heap.size ≤ base) := Lib.hid ⟨HB4.out.trans (hB5.mono HB4.out.size), by rw [← hbase.out]; exact hB5.size, by rw [← hbase.out]; exact HB4.out.size⟩
          clear hks hO5 hB5 hrw hkc
          go_wp2_with fail
          go_loopw [15] (fun i wr => ∃ t : Nat, t ≤ nk ∧ i = .int .i64 t ∧ Hid (Ow w5 wr base (.slice AK nk cK))) (fun i _ => nk - (intOf i).toNat)
          case atStart => exact ⟨0, Nat.zero_le _, rfl, HW⟩
          case round =>
            clear HW
            obtain ⟨t, ht, rfl, HW⟩ := hrel
            have HBv : Hid (Below v2.heap.size v2 wr) := Lib.hid (H5.out.1.trans (HW.out.bel.mono H5.out.2.2))
            by_cases hlt : t < nk
            · obtain ⟨gK, oK, P, np, cp, eK, kc, hrow, hp1, hp2, csK, hBK⟩ := HW.out.rows.at_ hlt
              subst eK
              obtain ⟨L, hL⟩ := hrow.has
              have i0 : (0 : Int) ≤ (t : Int) := by omega
              have i1 : (t : Int) < (nk : Int) := by omega
              have hget := get_any (HP.out.pc.belowS HBv.out) hL
              obtain ⟨G, hG⟩ : ∃ G, Hid (getC W C L = G) := ⟨_, Lib.hid rfl⟩
              rw [hG.out] at hget
              have HG := Lib.hid hget
              have hbz : Hid (base ≤ wr.heap.size) := Lib.hid (Nat.le_trans H5.out.2.1 HW.out.bel.size)
              clear hget hrow hBK hL
              go_wp2_with fail
              refine HG.out.mono ?_
              rintro e w6 ht6
              clear kc HG
              have hform : ∃ (q : Int) (bb : Bool) (E1 : Option Addr) (l1' e1 : Nat) (E2 : Option Addr) (l2' e2 : Nat) (E3 : Option Addr) (l3' e3 : Nat), e = .returned (.tuple #[.agg #[.int .i64 q, .slice E1 l1' e1, .slice E2 l2' e2, .slice E3 l3' e3], .bool bb]) ∧ RowI w6 base (.slice E1 l1' e1) ∧ RowI w6 base (.slice E2 l2' e2) ∧ (l1' ≤ 9223372036854775807 ∧ l2' ≤ 9223372036854775807) ∧ Below wr.heap.size wr w6 := by
                obtain _ | ⟨q, Su, M, X⟩ := G
                · obtain ⟨rfl, hb6⟩ := ht6
                  exact ⟨0, false, none, 0, 0, none, 0, 0, none, 0, 0, rfl, rowI_none _ _, rowI_none _ _, ⟨by omega, by omega⟩, hb6⟩
                · obtain ⟨⟨u1, u2, u3, rfl, hO6⟩, hb6⟩ := ht6.some_
                  have r1 := hO6.s.rowI
                  have r2 := hO6.m.rowI
                  obtain ⟨E1, l1', e1, E2, l2', e2, E3, l3', e3, rfl, rfl, rfl, hE⟩ := hO6.form
                  exact ⟨q, true, E1, l1', e1, E2, l2', e2, E3, l3', e3, rfl, r1.low hbz.out, r2.low hbz.out, ⟨hE.s.lenMax, hE.m.lenMax⟩, hb6⟩
              obtain ⟨q, bb, E1, l1', e1, E2, l2', e2, E3, l3', e3, rfl, hr1, hr2, ⟨hm1, hm2⟩, hb6⟩ := hform
              have hal := below_a1 w6 (.cells #[.int .i64 q, .slice E1 l1' e1, .slice E2 l2' e2, .slice E3 l3' e3] 30)
              have HX : Hid (Ox w5 (w6.alloc (.cells #[.int .i64 q, .slice E1 l1' e1, .slice E2 l2' e2, .slice E3 l3' e3] 30)) base (.slice (some ⟨gK, oK, none⟩) nk cK) w6.heap.size q (.slice E1 l1' e1) (.slice E2 l2' e2) (.slice E3 l3' e3)) := Lib.hid ⟨HW.out.below (below_then hb6 hal) hbz.out, Block.new w6 30 _, hr1.below hal, hr2.below hal⟩
              clear ht6 hr1 hr2 hb6 hal
              go_wp2_with fail
              generalize w6.alloc (.cells #[.int .i64 q, .slice E1 l1' e1, .slice E2 l2' e2, .slice E3 l3' e3] 30) = w7 at HX ⊢
              obtain ⟨xb, hxb⟩ : ∃ xb, w6.heap.size = xb := ⟨_, rfl⟩
              rw [hxb] at HX ⊢
              clear hxb HW HBv
              obtain ⟨wo, hwo⟩ : ∃ wo, wo = wr := ⟨_, rfl⟩
              go_loopw [18] (fun i wr => ∃ s : Nat, s ≤ l1' ∧ i = .int .i64 s ∧ Hid (Ox w5 wr base (.slice (some ⟨gK, oK, none⟩) nk cK) xb q (.slice E1 l1' e1) (.slice E2 l2' e2) (.slice E3 l3' e3))) (fun i _ => l1' - (intOf i).toNat)
              case atStart => exact ⟨0, Nat.zero_le _, rfl, HX⟩
              case round =>
                clear HX
                obtain ⟨s, hs, rfl, HX⟩ := hrel
                have c1 : wr.cell? ⟨xb, 1, none⟩ = some (.slice E1 l1' e1) := HX.out.blk.cell 1
                by_cases hls : s < l1'
                · obtain ⟨gs, os, cs, xs, eA, hgs, cc, hBs, ff⟩ := HX.out.r1.at_ hls
                  subst eA
                  have i2 : (0 : Int) ≤ (s : Int) := by omega
                  have i3 : (s : Int) < (l1' : Int) := by omega
                  have HX2 := Lib.hid (HX.out.set_ hBs hgs (os + s) 77)
                  clear hBs
                  go_wp2_with fail
                  go_roundw
                  case rel => exact ⟨s + 1, by omega, by go_num, HX2⟩
                  case measure => simp [intOf]; omega
                · go_wp2_with fail
                  clear c1
                  go_loopw [19] (fun i wr => ∃ s : Nat, s ≤ l2' ∧ i = .int .i64 s ∧ Hid (Ox w5 wr base (.slice (some ⟨gK, oK, none⟩) nk cK) xb q (.slice E1 l1' e1) (.slice E2 l2' e2) (.slice E3 l3' e3))) (fun i _ => l2' - (intOf i).toNat)
                  case atStart => exact ⟨0, Nat.zero_le _, rfl, HX⟩
                  case round =>
                    clear HX
                    obtain ⟨s, hs, rfl, HX⟩ := hrel
                    have c1 : wr.cell? ⟨xb, 2, none⟩ = some (.slice E2 l2' e2) := HX.out.blk.cell 2
                    by_cases hls : s < l2'
                    · obtain ⟨gs, os, cs, xs, eA, hgs, cc, hBs, ff⟩ := HX.out.r2.at_ hls
                      subst eA
                      have i2 : (0 : Int) ≤ (s : Int) := by omega
                      have i3 : (s : Int) < (l2' : Int) := by omega
                      have HX2 := Lib.hid (HX.out.set_ hBs hgs (os + s) 77)
                      clear hBs
                      go_wp2_with fail
                      go_roundw
                      case rel => exact ⟨s + 1, by omega, by go_num, HX2⟩
                      case measure => simp [intOf]; omega
                    · go_wp2_with fail
                      clear c1
                      obtain ⟨gK', oK', P, np, cp, eK, kc, hrow, hp1, hp2, csK, hBK⟩ := HX.out.ow.rows.at_ hlt
                      injection eK with eK
                      injection eK with eKa eKb
                      subst eKa eKb
                      have hcs : Hid (csK[oK + t]? = some (.slice P np cp)) := Lib.hid (by rw [← hBK.cell]; exact kc)
                      have HY : Hid (Oy w5 wr base (.slice (some ⟨gK, oK, none⟩) nk cK) gK csK (.slice P np cp)) := Lib.hid ⟨HX.out.ow, hBK, hrow⟩
                      have hpm : np ≤ 9223372036854775807 := Nat.le_trans hp1 hp2
                      clear kc hrow hBK HX
                      go_loopw [20] (fun i wr => ∃ s : Nat, s ≤ np ∧ i = .int .i64 s ∧ Hid (Oy w5 wr base (.slice (some ⟨gK, oK, none⟩) nk cK) gK csK (.slice P np cp))) (fun i _ => np - (intOf i).toNat)
                      case atStart => exact ⟨0, Nat.zero_le _, rfl, HY⟩
                      case round =>
                        clear HY
                        obtain ⟨s, hs, rfl, HY⟩ := hrel
                        have kc : wr.cell? ⟨gK, oK + t, none⟩ = some (.slice P np cp) := (HY.out.kb.cell _).trans hcs.out
                        by_cases hls : s < np
                        · obtain ⟨gs, os, cs, xs, eA, hgs, cc, hBs, ff⟩ := HY.out.row.at_ hls
                          subst eA
                          have i2 : (0 : Int) ≤ (s : Int) := by omega
                          have i3 : (s : Int) < (np : Int) := by omega
                          have HY2 := Lib.hid (HY.out.set_ hBs hgs (os + s) 9)
                          clear hBs
                          go_wp2_with fail
                          go_roundw
                          case rel => exact ⟨s + 1, by omega, by go_num, HY2⟩
                          case measure => simp [intOf]; omega
                        · have HF := Lib.hid HY.out.ow
                          go_wp2_with fail
                          go_roundw
                          case rel => exact ⟨t + 1, by omega, by go_num, HF⟩
                          case measure => simp [intOf]; omega
            · have hlk := Lib.hid (like_any (HP.out.pc.belowS HBv.out) (HRq.out.belowS HBv.out))
              clear HW
              go_wp2_with fail
              refine hlk.out.mono ?_
              rintro e w8 ⟨rfl, hb8⟩
              have HB8 := Lib.hid (HP.out.bel.trans ((below_then HBv.out hb8).mono HP.out.bel.size))
              clear hlk hb8
              go_wp2_with fail
              refine (cubLives_any _).mono ?_
              rintro y wz ⟨rfl, hBz⟩
              have HBz := Lib.hid (below_then HB8.out hBz)
              clear hBz
              go_wp2_with fail
              go_ret
              exact ⟨rfl, HBz.out⟩

set_option maxRecDepth 100000 in
theorem lifted (os : Os) (started : os.Started) (H : Type) (enc : TypeId × Value → H) :
    ReturnsInHanded {} Tryz.checked os 7 .any (Rows.cuboidOwnsSpec.pre6 enc Tryz.prog Tryz.f7 Rows.cuboidOwnsRow.domain false) (Rows.cuboidOwnsSpec.post enc Tryz.prog Tryz.f7 false true false false) := by
  refine returnsInHanded_of_change (C := Tryz.checked) own started (by kernel_rfl) Tryz.func7
    (ChangeSpec.witness6 (enc := enc) (C := Tryz.checked) false ⟨#[], #[.int .i64 0, .int .i64 0, .slice none 0 0, .slice none 0 0], []⟩ 8 (by kernel_rfl) (by kernel_rfl) (by kernel_rfl) (by kernel_rfl)) ?_
  intro W base args ds gs before hval0 hW hcnd _
  have hval : ∀ (j : Nat) t v, Tryz.f7.params[j]? = some t → args[j]? = some v → Value.okWide Tryz.prog W .any base t v := hval0
  have hW' := hW
  obtain ⟨p, q, hA0, hV, rfl, hfz, hnd⟩ := hW
  have hA : DataW.TrodAll enc Tryz.prog W 0 (fun _ => true) true Tryz.f7.params.toList args.toList ds p := hA0
  rw [Tryz.params7] at hA hval
  obtain ⟨v0, vs0, d0, ds0, p0, q0, hargs, rfl, rfl, h0, r0⟩ := trodAll_cons hA
  obtain ⟨v1, vs1, d1, ds1, p1, q1, rfl, rfl, rfl, h1, r1⟩ := trodAll_cons r0
  obtain ⟨v2, vs2, d2, ds2, p2, q2, rfl, rfl, rfl, h2, r2⟩ := trodAll_cons r1
  obtain ⟨v3, vs3, d3, ds3, p3, q3, rfl, rfl, rfl, h3, r3⟩ := trodAll_cons r2
  obtain ⟨rfl, rfl, rfl⟩ := trodAll_nil r3
  obtain rfl : args = #[v0, v1, v2, v3] := by cases args; simp_all
  obtain ⟨rfl, rfl⟩ := trodVars_none hV
  obtain ⟨a0, rfl, rfl, rfl, w0⟩ := open_int Tryz.underlying3 (hval 0 3 v0 rfl rfl) h0
  obtain ⟨a1, rfl, rfl, rfl, w1⟩ := open_int Tryz.underlying3 (hval 1 3 v1 rfl rfl) h1
  obtain ⟨a2, len2, cap2, rfl⟩ := okWide_slice Tryz.underlying22 (hval 2 22 v2 rfl rfl)
  have k2 := h2
  have lt2 : ∀ x ∈ p2, x.block < W.heap.size := by obtain ⟨m, hm⟩ := k2; exact DataW.trod_lt m _ _ _ hm
  have w2 : RC Tryz.prog W 22 [.slice a2 len2 cap2] := by
    obtain ⟨fuel, hf⟩ := h2
    exact ⟨_, _, _, _, _, fuel, _, hf⟩
  obtain ⟨a3, len3, cap3, rfl⟩ := okWide_slice Tryz.underlying22 (hval 3 22 v3 rfl rfl)
  have k3 := h3
  have lt3 : ∀ x ∈ p3, x.block < W.heap.size := by obtain ⟨m, hm⟩ := k3; exact DataW.trod_lt m _ _ _ hm
  have w3 : RC Tryz.prog W 22 [.slice a3 len3 cap3] := by
    obtain ⟨fuel, hf⟩ := h3
    exact ⟨_, _, _, _, _, fuel, _, hf⟩
  clear hA0 hval0
  refine (walk a0 a1 a2 len2 cap2 a3 len3 cap3 W w0 w1 w2 w3).mono fun e W' ⟨he, bel⟩ => ?_
  subst he
  exact ⟨_, rfl, _, _, _, [], _, [], hW', trodAll_mk1 (shut_bool Tryz.underlying4 _), (trodAll_cons_mk (shut_int Tryz.underlying3 w0) (trodAll_cons_mk (shut_int Tryz.underlying3 w1) (trodAll_cons_mk (Below.trod laidOut (by kernel_rfl) (of_decide_eq_true (by kernel_rfl)) k2 bel lt2) (trodAll_cons_mk (Below.trod laidOut (by kernel_rfl) (of_decide_eq_true (by kernel_rfl)) k3 bel lt3) trodAll_mk0)))), rfl, bel.frame _, fun h => by cases h⟩

theorem over : Rows.cuboidOwnsRow.holds Tryz.pinned (OpenSpec.ofChange Rows.cuboidOwnsSpec) :=
  OpenClaim.holds_of_wide 7 Tryz.f7 rfl rfl rfl rfl rfl rfl rfl ⟨rfl, rfl, rfl, rfl, rfl⟩ rfl rfl rfl rfl rfl (by kernel_rfl) Tryz.func7 (by kernel_rfl)
    (of_decide_eq_true (by kernel_rfl)) (by unfold Func.isWrapper; first | (rw [if_pos (by decide +kernel)]; kernel_rfl) | (rw [if_neg (by decide +kernel)]; exact ⟨rfl, rfl⟩))
    (fun os started H enc _ => lifted os started H enc)

theorem proved : Rows.CuboidOwnsSaid := over
end Go.Proofs.YteifhgcjmjihgaaGreat.cuboidOwns
