/-
  Proved: whatever the values and keys (the first 40, each as a cell of one value, of at most 2^50, under a key of few codes), cells added from the front and from the back make cuboids that put the same bytes; the document's examples hold, and nothing that was handed in is changed. No condition.
-/
import Derived.Test.YteifhgcjmjihgaaJ6
import Derived.Test.YteifhgcjmjihgaaJ33
import Derived.Test.YteifhgcjmjihgaaJ35
import Derived.Below
import Derived.ChangeOld
import Derived.OpenShut
import Derived.ProofKit
import Derived.ShutString
import Derived.Test.YteifhgcjmjihgaaRows
import Derived.WalkKit
namespace Go.Proofs.Yteifhgcjmjihgaa.cuboidOrder
open Go.ChangeShapes Go.WideShapes Go.ChangeAt Go.RowKit
open Go.ChangeMaps (open_string shut_string)
set_option linter.unusedVariables false

theorem own : ownKnob Try.prog.godebug = none := by kernel_rfl
theorem laidOut : laidOutB Try.prog = true := by kernel_rfl

def IsRow (k : IntKind) (w : World) (a : Option Addr) (len cap : Nat) (zs : List Int) : Prop :=
  (a = none ∧ len = 0 ∧ cap = 0 ∧ zs = []) ∨
  ∃ x, a = some x ∧ len ≤ cap ∧ cap ≤ maxLen ∧ zs.length = cap ∧ (∀ i, i < zs.length → w.cell? (x.add i) = some (.int k (zs.getD i 0))) ∧ ∀ n ∈ zs, (Lit.int k n).wf = true

set_option maxRecDepth 100000 in
set_option maxHeartbeats 2000000 in
theorem walk (a0 : Option Addr) (len0 cap0 : Nat) (z0 : List Int) (a1 : Option Addr) (len1 cap1 : Nat) (z1 : List Int) (w : World) (w0 : IsRow .i64 w a0 len0 cap0 z0) (w1 : IsRow .i64 w a1 len1 cap1 z1) :
    Calls Try.prog 4 #[.slice a0 len0 cap0, .slice a1 len1 cap1] w fun e w' => e = .returned (.bool true) ∧ Below w.heap.size w w' := by
  obtain ⟨K, hK, hKb⟩ := HasI.of_row w0
  obtain ⟨V, hV, hVb⟩ := HasI.of_row w1
  clear w0 w1
  have HK := Lib.hid hK
  have HV := Lib.hid hV
  have HKb := Lib.hid hKb
  have HVb := Lib.hid hVb
  have hm0 := hK.lenMax
  have hm1 := hV.lenMax
  have hcp0 := hK.cap
  have hcp1 := hV.cap
  have hcm0 := hK.capMax
  have hcm1 := hV.capMax
  clear hK hV hKb hVb
  have hn1 := Lib.hid (new_yes (W := 1) (m := 1) (by decide) (by decide) (by decide) (by decide) w)
  go_enter Try.func4, Try.ntmps4
  go_wp2_with fail
  refine hn1.out.mono ?_
  rintro y v1 ⟨⟨v, rfl, g1, b1, rfl, hC1, hg1, hb1⟩, hB1⟩
  have hn2 := Lib.hid (new_yes (W := 1) (m := 1) (by decide) (by decide) (by decide) (by decide) v1)
  have H1 := Lib.hid (And.intro hC1 hB1)
  have hz1 := hB1.size
  have l1 : g1 < v1.heap.size := hC1.blk.lt
  have l2 : b1 < v1.heap.size := hC1.map.lt
  clear hn1 hC1 hB1
  go_wp2_with fail
  refine hn2.out.mono ?_
  rintro y v2 ⟨⟨v, rfl, g2, b2, rfl, hC2, hg2, hb2⟩, hB2⟩
  have H2 := Lib.hid (And.intro (H1.out.1.belowS hB2) (And.intro hC2 (below_then H1.out.2 hB2)))
  clear hn2 hC2 hB2 H1
  go_upto_if 26 with fail
  go_cut [7] (fun s wx => ∃ n : Nat, s = .int .i64 n ∧ n ≤ len0 ∧ n ≤ len1 ∧ v2 = wx)
  case first =>
    by_cases h : (len1 : Int) < (len0 : Int)
    · go_wp2_with fail
      go_meet
      exact ⟨len1, rfl, by omega, by omega, rfl⟩
    · go_wp2_with fail
      go_meet
      exact ⟨len0, rfl, by omega, by omega, rfl⟩
  case rest =>
    obtain ⟨n, rfl, hn0, hn1, rfl⟩ := hcut
    go_upto_if 30 with fail
    go_cut [7] (fun s wx => ∃ n : Nat, s = .int .i64 n ∧ n ≤ len0 ∧ n ≤ len1 ∧ n ≤ 40 ∧ v2 = wx)
    case first =>
      by_cases h : (40 : Int) < (n : Int)
      · go_wp2_with fail
        go_meet
        exact ⟨40, rfl, by omega, by omega, by omega, rfl⟩
      · go_wp2_with fail
        go_meet
        exact ⟨n, rfl, by omega, by omega, by omega, rfl⟩
    case rest =>
      clear hn0 hn1 n
      obtain ⟨n, rfl, hn0, hn1, hn40, rfl⟩ := hcut
      have HO := Lib.hid (ord_ok K V hn40)
      go_wp2_with fail
      go_loopw [8] (fun i wr => ∃ k : Nat, k ≤ n ∧ i = .int .i64 k ∧ Cb wr g1 b1 1 1 (addsK 1 1 (ordD K V n) k) ∧ Cb wr g2 b2 1 1 (addsK 1 1 (ordD K V n).reverse k) ∧ Below w.heap.size w wr) (fun i _ => n - (intOf i).toNat)
      case atStart => exact ⟨0, Nat.zero_le _, rfl, H2.out⟩
      case round =>
        obtain ⟨k, hk, rfl, hLa, hLb, hLB⟩ := hrel
        have HL := Lib.hid (And.intro hLa (And.intro hLb hLB))
        clear hLa hLb hLB
        by_cases hlt : k < n
        · obtain ⟨p, hp⟩ : ∃ p : Nat, Hid (n - 1 - k = p) := ⟨_, Lib.hid rfl⟩
          have hp1 : (n : Int) - 1 - (k : Int) = (p : Int) := by have := hp.out; omega
          have hpn : p < n := by have := hp.out; omega
          have i0 : (0 : Int) ≤ (k : Int) := by omega
          have i1 : (k : Int) < (len0 : Int) := by omega
          have i2 : (k : Int) < (len1 : Int) := by omega
          have j0 : (0 : Int) ≤ (p : Int) := by omega
          have j1 : (p : Int) < (len0 : Int) := by omega
          have j2 : (p : Int) < (len1 : Int) := by omega
          obtain ⟨e0, o0, x14, rfl, he14, q14, hx14⟩ := HK.out.at_ (k := k) (by omega)
          obtain ⟨f0, p0, y14, rfl, hf14, t14, hy14⟩ := HV.out.at_ (k := k) (by omega)
          have KK14 : Hid (∀ y : World, Below w.heap.size w y → y.cell? ⟨e0, o0 + k, none⟩ = some (.int .i64 x14) ∧ y.cell? ⟨f0, p0 + k, none⟩ = some (.int .i64 y14)) := Lib.hid fun y hy => ⟨(hy.cell (p := ⟨e0, o0 + k, none⟩) he14).trans q14, (hy.cell (p := ⟨f0, p0 + k, none⟩) hf14).trans t14⟩
          obtain ⟨u14, v14⟩ := KK14.out _ HL.out.2.2
          have bx14 := Lib.hid (inb HKb HK.out.len hx14.out (by omega : k < len0))
          have by14 := Lib.hid (inb HVb HV.out.len hy14.out (by omega : k < len1))
          have P14 := Lib.hid fun z => pick5_any x14 bx14.out z
          have R14 := Lib.hid fun z => pick50_any y14 by14.out z
          obtain ⟨a14, ha14⟩ : ∃ t, Hid (pickN x14 5 = t) := ⟨_, Lib.hid rfl⟩
          obtain ⟨c14, hc14⟩ : ∃ t, Hid (pickN y14 1125899906842624 = t) := ⟨_, Lib.hid rfl⟩
          rw [ha14.out] at P14
          rw [hc14.out] at R14
          have hone14 : Hid (ordOne K V k = ([(a14 : Int)], (1, [(c14 : Int)], [(c14 : Int)], [(c14 : Int)]))) := Lib.hid (by unfold ordOne oneV; rw [← ha14.out, ← hc14.out, hx14.out, hy14.out])
          have add14 : Hid (addK 1 1 (addsK 1 1 (ordD K V n) k) [(a14 : Int)] (1, [(c14 : Int)], [(c14 : Int)], [(c14 : Int)]) = (addsK 1 1 (ordD K V n) (k + 1), 0)) := Lib.hid (by
            have h := HO.out.1 k hlt
            rw [hone14.out] at h
            exact h)
          have hd14 : Hid (Below wr.heap.size wr wr.drew) := Lib.hid (below_drewN (Below.refl _ _) 1)
          clear q14 t14
          go_upto_region 14 with fail
          go_cut [10] (fun s wx => s = .int .i64 0 ∧ Cb wx g1 b1 1 1 (addsK 1 1 (ordD K V n) (k + 1)) ∧ Cb wx g2 b2 1 1 (addsK 1 1 (ordD K V n).reverse k) ∧ Below w.heap.size w wx)
          case first =>
            go_region_held3 (fun w' => w'.cell? ⟨e0, o0 + k, none⟩ = some (.int .i64 x14) ∧ w'.cell? ⟨f0, p0 + k, none⟩ = some (.int .i64 y14))
              (first
                | with_reducible exact KK14.out _ hBm
                | with_reducible exact KK14.out _ hBn
                | go_keep)
              (first
                | (go_at_call 13; with_reducible refine (P14.out _).mono ?_; rintro y z14 ⟨rfl, rfl⟩)
                | (go_at_call 13; with_reducible refine (R14.out _).mono ?_; rintro y z14 ⟨rfl, rfl⟩)
                | (go_at_call 14; refine (lawOne_any (c14 : Int) _).mono ?_; rintro y z14 ⟨A1, n1, c1, A2, n2, c2, A3, n3, c3, rfl, hx, hbx⟩; have hBH : Below wr.heap.size wr z14 ∧ HasI z14 z14.heap.size (some ⟨wr.heap.size, 0, none⟩) 1 1 [(a14 : Int)] := (by first | with_reducible exact ordA1 hbx | with_reducible exact ordA2 hbx | with_reducible exact ordA0 hbx | with_reducible exact ordA3 hbx); have hBz := hBH.1; have HA := Lib.hid (lv_add (HL.out.1.belowS hBz) hBH.2 hx add14.out); have hBn := below_then HL.out.2.2 hBz; have HBx := Lib.hid hBz; clear hx hbx hBz hBH)
                | (go_at_call 14; refine (lawOne_any (c14 : Int) _).mono ?_; rintro y z14 ⟨A1, n1, c1, A2, n2, c2, A3, n3, c3, rfl, hx, hbx⟩; have hBz : Below wr.heap.size wr z14 := (by first | with_reducible exact ordC1 hbx | with_reducible exact ordC2 hbx | with_reducible exact ordC0 hbx | with_reducible exact ordC3 hbx); have hBy := below_then hBz (below_a1 z14 (.cells #[.int .i64 (a14 : Int)] 3)); have HA := Lib.hid (lv_add (HL.out.1.belowS hBy) (litI1 z14 (a14 : Int) _ rfl) (hx.allocS _) add14.out); have hBn := below_then HL.out.2.2 hBz; have HBx := Lib.hid hBy; clear hx hbx hBz hBy)
                | (go_at_call 12; refine HA.out.mono ?_; rintro y wm ⟨rfl, hC14, hG14⟩; have hBm := below_row (below_then HL.out.2.2 HBx.out) hG14 (by omega) (by have h1 := HL.out.2.2.size; have h2 := HBx.out.size; omega)))
            all_goals
              have hF := Lib.hid (show Cb wm g1 b1 1 1 (addsK 1 1 (ordD K V n) (k + 1)) ∧ Cb wm g2 b2 1 1 (addsK 1 1 (ordD K V n).reverse k) ∧ Below w.heap.size w wm from
                ⟨hC14, (HL.out.2.1.belowS HBx.out).kept hG14 (fun e => by injection e with e; omega) (fun e => by injection e with e; omega), hBm⟩)
              clear hC14 hG14 hBm HBx HA hBn u14 v14
              go_wp2_with fail
              go_meet
              exact ⟨rfl, hF.out⟩
          case rest =>
            obtain ⟨rfl, hMa, hMb, hMB⟩ := hcut
            have HM := Lib.hid (And.intro hMa (And.intro hMb hMB))
            clear hMa hMb hMB
            obtain ⟨e1, o1, x15, ea, he15, q15, hx15⟩ := HK.out.at_ (k := p) (by omega)
            obtain ⟨f1, p1, y15, fa, hf15, t15, hy15⟩ := HV.out.at_ (k := p) (by omega)
            injection ea with ea
            injection ea with ea1 ea2
            subst ea1 ea2
            injection fa with fa
            injection fa with fa1 fa2
            subst fa1 fa2
            have KK15 : Hid (∀ y : World, Below w.heap.size w y → y.cell? ⟨e0, o0 + p, none⟩ = some (.int .i64 x15) ∧ y.cell? ⟨f0, p0 + p, none⟩ = some (.int .i64 y15)) := Lib.hid fun y hy => ⟨(hy.cell (p := ⟨e0, o0 + p, none⟩) he15).trans q15, (hy.cell (p := ⟨f0, p0 + p, none⟩) hf15).trans t15⟩
            obtain ⟨u15, v15⟩ := KK15.out _ HM.out.2.2
            have bx15 := Lib.hid (inb HKb HK.out.len hx15.out (by omega : p < len0))
            have by15 := Lib.hid (inb HVb HV.out.len hy15.out (by omega : p < len1))
            have P15 := Lib.hid fun z => pick5_any x15 bx15.out z
            have R15 := Lib.hid fun z => pick50_any y15 by15.out z
            obtain ⟨a15, ha15⟩ : ∃ t, Hid (pickN x15 5 = t) := ⟨_, Lib.hid rfl⟩
            obtain ⟨c15, hc15⟩ : ∃ t, Hid (pickN y15 1125899906842624 = t) := ⟨_, Lib.hid rfl⟩
            rw [ha15.out] at P15
            rw [hc15.out] at R15
            have hone15 : Hid (ordOne K V (n - 1 - k) = ([(a15 : Int)], (1, [(c15 : Int)], [(c15 : Int)], [(c15 : Int)]))) := Lib.hid (by unfold ordOne oneV; rw [← ha15.out, ← hc15.out, hx15.out, hy15.out, hp.out])
            have add15 : Hid (addK 1 1 (addsK 1 1 ((ordD K V n).reverse) k) [(a15 : Int)] (1, [(c15 : Int)], [(c15 : Int)], [(c15 : Int)]) = (addsK 1 1 ((ordD K V n).reverse) (k + 1), 0)) := Lib.hid (by
              have h := HO.out.2.1 k hlt
              rw [hone15.out] at h
              exact h)
            have hd15 : Hid (Below wc.heap.size wc wc.drew) := Lib.hid (below_drewN (Below.refl _ _) 1)
            clear q15 t15
            go_upto_region 15 with fail
            go_cut [11] (fun s wx => s = .int .i64 0 ∧ Cb wx g1 b1 1 1 (addsK 1 1 (ordD K V n) (k + 1)) ∧ Cb wx g2 b2 1 1 (addsK 1 1 (ordD K V n).reverse (k + 1)) ∧ Below w.heap.size w wx)
            case first =>
              go_region_held3 (fun w' => w'.cell? ⟨e0, o0 + p, none⟩ = some (.int .i64 x15) ∧ w'.cell? ⟨f0, p0 + p, none⟩ = some (.int .i64 y15))
                (first
                  | with_reducible exact KK15.out _ hBm
                  | with_reducible exact KK15.out _ hBn
                  | go_keep)
                (first
                  | (go_at_call 13; with_reducible refine (P15.out _).mono ?_; rintro y z15 ⟨rfl, rfl⟩)
                  | (go_at_call 13; with_reducible refine (R15.out _).mono ?_; rintro y z15 ⟨rfl, rfl⟩)
                  | (go_at_call 14; refine (lawOne_any (c15 : Int) _).mono ?_; rintro y z15 ⟨A1, n1, c1, A2, n2, c2, A3, n3, c3, rfl, hx, hbx⟩; have hBH : Below wc.heap.size wc z15 ∧ HasI z15 z15.heap.size (some ⟨wc.heap.size, 0, none⟩) 1 1 [(a15 : Int)] := (by first | with_reducible exact ordA1 hbx | with_reducible exact ordA2 hbx | with_reducible exact ordA0 hbx | with_reducible exact ordA3 hbx); have hBz := hBH.1; have HA := Lib.hid (lv_add (HM.out.2.1.belowS hBz) hBH.2 hx add15.out); have hBn := below_then HM.out.2.2 hBz; have HBx := Lib.hid hBz; clear hx hbx hBz hBH)
                  | (go_at_call 14; refine (lawOne_any (c15 : Int) _).mono ?_; rintro y z15 ⟨A1, n1, c1, A2, n2, c2, A3, n3, c3, rfl, hx, hbx⟩; have hBz : Below wc.heap.size wc z15 := (by first | with_reducible exact ordC1 hbx | with_reducible exact ordC2 hbx | with_reducible exact ordC0 hbx | with_reducible exact ordC3 hbx); have hBy := below_then hBz (below_a1 z15 (.cells #[.int .i64 (a15 : Int)] 3)); have HA := Lib.hid (lv_add (HM.out.2.1.belowS hBy) (litI1 z15 (a15 : Int) _ rfl) (hx.allocS _) add15.out); have hBn := below_then HM.out.2.2 hBz; have HBx := Lib.hid hBy; clear hx hbx hBz hBy)
                  | (go_at_call 12; refine HA.out.mono ?_; rintro y wn ⟨rfl, hC15, hG15⟩; have hBm := below_row (below_then HM.out.2.2 HBx.out) hG15 (by omega) (by have h1 := HM.out.2.2.size; have h2 := HBx.out.size; omega)))
              all_goals
                have hF := Lib.hid (show Cb wn g1 b1 1 1 (addsK 1 1 (ordD K V n) (k + 1)) ∧ Cb wn g2 b2 1 1 (addsK 1 1 (ordD K V n).reverse (k + 1)) ∧ Below w.heap.size w wn from
                  ⟨(HM.out.1.belowS HBx.out).kept hG15 (fun e => by injection e with e; omega) (fun e => by injection e with e; omega), hC15, hBm⟩)
                clear hC15 hG15 hBm HBx HA hBn u15 v15
                go_wp2_with fail
                go_meet
                exact ⟨rfl, hF.out⟩
            case rest =>
              obtain ⟨rfl, hMa, hMb, hMB⟩ := hcut
              have HN := Lib.hid (And.intro hMa (And.intro hMb hMB))
              clear hMa hMb hMB
              go_wp2_with fail
              go_roundw
              case rel => exact ⟨k + 1, by omega, by go_num, HN.out⟩
              case measure => simp [intOf]; omega
        · obtain rfl : n = k := by omega
          have hpa := Lib.hid (put_any HL.out.1)
          go_wp2_with fail
          refine hpa.out.mono ?_
          rintro y wa ⟨va, rfl, hOa, hBa⟩
          have hpb := Lib.hid (put_any (HL.out.2.1.belowS hBa))
          have Ha := Lib.hid (And.intro hOa (below_then HL.out.2.2 hBa))
          clear hpa hOa hBa
          go_wp2_with fail
          refine hpb.out.mono ?_
          rintro y wb ⟨vb, rfl, hOb, hBb⟩
          have hOa := Ha.out.1.below hBb (Nat.le_refl _)
          obtain ⟨Aa, na, ca, rfl, hha, _⟩ := hOa.formN
          obtain ⟨Ab, nb, cb, rfl, hhb, _⟩ := hOb.formN
          have hsm := Lib.hid (same_any Aa Ab na ca nb cb _ _ wb _ _ hha hhb)
          rw [HO.out.2.2] at hsm
          have hBB := Lib.hid (below_then Ha.out.2 hBb)
          clear hpb hOa hOb hha hhb hBb Ha
          go_wp2_with fail
          refine hsm.out.mono ?_
          rintro y wc ⟨rfl, nq, rfl⟩
          rw [beq_self_eq_true]
          clear hsm
          go_wp2_with fail
          refine (cubLives_any _).mono ?_
          rintro y wd ⟨rfl, hBd⟩
          have HB := Lib.hid (below_then (below_drewN hBB.out nq) hBd)
          clear hBd
          go_wp2_with fail
          go_ret
          exact ⟨rfl, HB.out⟩

set_option maxRecDepth 100000 in
theorem lifted (os : Os) (started : os.Started) (H : Type) (enc : TypeId × Value → H) :
    ReturnsInHanded {} Try.checked os 4 .any (Rows.cuboidOrderSpec.pre6 enc Try.prog Try.f4 Rows.cuboidOrderRow.domain false) (Rows.cuboidOrderSpec.post enc Try.prog Try.f4 false true false false) := by
  refine returnsInHanded_of_change (C := Try.checked) own started (by kernel_rfl) Try.func4
    (ChangeSpec.witness6 (enc := enc) (C := Try.checked) false ⟨#[], #[.slice none 0 0, .slice none 0 0], []⟩ 8 (by kernel_rfl) (by kernel_rfl) (by kernel_rfl) (by kernel_rfl)) ?_
  intro W base args ds gs before hval0 hW hcnd _
  have hval : ∀ (j : Nat) t v, Try.f4.params[j]? = some t → args[j]? = some v → Value.okWide Try.prog W .any base t v := hval0
  have hW' := hW
  obtain ⟨p, q, hA0, hV, rfl, hfz, hnd⟩ := hW
  have hA : DataW.TrodAll enc Try.prog W 0 (fun _ => true) true Try.f4.params.toList args.toList ds p := hA0
  rw [Try.params4] at hA hval
  obtain ⟨v0, vs0, d0, ds0, p0, q0, hargs, rfl, rfl, h0, r0⟩ := trodAll_cons hA
  obtain ⟨v1, vs1, d1, ds1, p1, q1, rfl, rfl, rfl, h1, r1⟩ := trodAll_cons r0
  obtain ⟨rfl, rfl, rfl⟩ := trodAll_nil r1
  obtain rfl : args = #[v0, v1] := by cases args; simp_all
  obtain ⟨rfl, rfl⟩ := trodVars_none hV
  obtain ⟨a0, len0, cap0, rfl⟩ := okWide_slice Try.underlying33 (hval 0 33 v0 rfl rfl)
  have k0 := h0
  have lt0 : ∀ x ∈ p0, x.block < W.heap.size := by obtain ⟨m, hm⟩ := k0; exact DataW.trod_lt m _ _ _ hm
  obtain ⟨z0, w0⟩ : ∃ zs, IsRow .i64 W a0 len0 cap0 zs := by
    obtain ⟨fuel, hf⟩ := h0
    rcases open_ints Try.underlying33 Try.underlying3 (by kernel_rfl) hf with ⟨hcs, _⟩ | ⟨x, l, c, zs, hcs, _, hl, hm, hz, _, hcell, hwz⟩
    · simp [Value.cells] at hcs
      obtain ⟨rfl, rfl, rfl⟩ := hcs
      exact ⟨[], .inl ⟨rfl, rfl, rfl, rfl⟩⟩
    · simp [Value.cells] at hcs
      obtain ⟨rfl, rfl, rfl⟩ := hcs
      exact ⟨zs, .inr ⟨_, rfl, hl, hm, by simpa using hz, hcell, hwz⟩⟩
  obtain ⟨a1, len1, cap1, rfl⟩ := okWide_slice Try.underlying33 (hval 1 33 v1 rfl rfl)
  have k1 := h1
  have lt1 : ∀ x ∈ p1, x.block < W.heap.size := by obtain ⟨m, hm⟩ := k1; exact DataW.trod_lt m _ _ _ hm
  obtain ⟨z1, w1⟩ : ∃ zs, IsRow .i64 W a1 len1 cap1 zs := by
    obtain ⟨fuel, hf⟩ := h1
    rcases open_ints Try.underlying33 Try.underlying3 (by kernel_rfl) hf with ⟨hcs, _⟩ | ⟨x, l, c, zs, hcs, _, hl, hm, hz, _, hcell, hwz⟩
    · simp [Value.cells] at hcs
      obtain ⟨rfl, rfl, rfl⟩ := hcs
      exact ⟨[], .inl ⟨rfl, rfl, rfl, rfl⟩⟩
    · simp [Value.cells] at hcs
      obtain ⟨rfl, rfl, rfl⟩ := hcs
      exact ⟨zs, .inr ⟨_, rfl, hl, hm, by simpa using hz, hcell, hwz⟩⟩
  clear hA0 hval0
  refine (walk a0 len0 cap0 z0 a1 len1 cap1 z1 W w0 w1).mono fun e W' ⟨he, bel⟩ => ?_
  subst he
  exact ⟨_, rfl, _, _, _, [], _, [], hW', trodAll_mk1 (shut_bool Try.underlying4 _), (trodAll_cons_mk (Below.trod laidOut (by kernel_rfl) (of_decide_eq_true (by kernel_rfl)) k0 bel lt0) (trodAll_cons_mk (Below.trod laidOut (by kernel_rfl) (of_decide_eq_true (by kernel_rfl)) k1 bel lt1) trodAll_mk0)), rfl, bel.frame _, fun h => by cases h⟩

theorem over : Rows.cuboidOrderRow.holds Try.pinned (OpenSpec.ofChange Rows.cuboidOrderSpec) :=
  OpenClaim.holds_of_wide 4 Try.f4 rfl rfl rfl rfl rfl rfl rfl ⟨rfl, rfl, rfl, rfl, rfl⟩ rfl rfl rfl rfl rfl (by kernel_rfl) Try.func4 (by kernel_rfl)
    (of_decide_eq_true (by kernel_rfl)) (by unfold Func.isWrapper; first | (rw [if_pos (by decide +kernel)]; kernel_rfl) | (rw [if_neg (by decide +kernel)]; exact ⟨rfl, rfl⟩))
    (fun os started H enc _ => lifted os started H enc)

theorem proved : Rows.CuboidOrderSaid := over
end Go.Proofs.Yteifhgcjmjihgaa.cuboidOrder
