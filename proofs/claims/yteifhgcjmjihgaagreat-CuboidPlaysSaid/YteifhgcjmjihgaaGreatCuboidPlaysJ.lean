/-
  Proved: whatever the widths, measures, cells (the first 60) and keys that are asked (the first 20), a cuboid answers Add, Get, Keys, Len and Put just what the document's answers, call by call, and there is one just for the widths and measures that the document names; the document's examples hold, and nothing that was handed in is changed. No condition.
-/
import Derived.Test.YteifhgcjmjihgaaGreatJ45
import Derived.Below
import Derived.ChangeOld
import Derived.OpenShut
import Derived.ProofKit
import Derived.ShutString
import Derived.Test.YteifhgcjmjihgaaGreatRows
import Derived.WalkKit
namespace Go.Proofs.YteifhgcjmjihgaaGreat.cuboidPlays
open Go.ChangeShapes Go.WideShapes Go.ChangeAt Go.RowKit
open Go.ChangeMaps (open_string shut_string)
set_option linter.unusedVariables false

theorem own : ownKnob Tryz.prog.godebug = none := by kernel_rfl
theorem laidOut : laidOutB Tryz.prog = true := by kernel_rfl

def IsRow (k : IntKind) (w : World) (a : Option Addr) (len cap : Nat) (zs : List Int) : Prop :=
  (a = none ∧ len = 0 ∧ cap = 0 ∧ zs = []) ∨
  ∃ x, a = some x ∧ len ≤ cap ∧ cap ≤ maxLen ∧ zs.length = cap ∧ (∀ i, i < zs.length → w.cell? (x.add i) = some (.int k (zs.getD i 0))) ∧ ∀ n ∈ zs, (Lit.int k n).wf = true

set_option maxRecDepth 100000 in
set_option maxHeartbeats 2000000 in
theorem walk (a0 : Int) (a1 : Int) (a2 : Option Addr) (len2 cap2 : Nat) (a3 : Option Addr) (len3 cap3 : Nat) (w : World) (w0 : (Lit.int .i64 a0).wf = true) (w1 : (Lit.int .i64 a1).wf = true) (w2 : RC Tryz.prog w 22 [.slice a2 len2 cap2]) (w3 : RC Tryz.prog w 23 [.slice a3 len3 cap3]) :
    Calls Tryz.prog 3 #[.int .i64 a0, .int .i64 a1, .slice a2 len2 cap2, .slice a3 len3 cap3] w fun e w' => e = .returned (.bool true) ∧ Below w.heap.size w w' := by
  obtain ⟨l1, l2⟩ := i64_of_wf w0
  obtain ⟨l3, l4⟩ := i64_of_wf w1
  obtain ⟨D, hD⟩ := deeds_of w2
  obtain ⟨us, hU⟩ := ups_of w3
  clear w0 w1 w2 w3
  go_enter Tryz.func3, Tryz.ntmps3
  go_wp2_with fail

  refine (both_any ⟨l1, l2⟩ ⟨l3, l4⟩ hD).mono ?_
  rintro e v2 ⟨g, b, r, rfl, hP⟩
  obtain ⟨W, hW⟩ : ∃ W, Hid (wideP a0 = W) := ⟨_, Lib.hid rfl⟩
  obtain ⟨m, hm⟩ : ∃ m, Hid (measP a1 = m) := ⟨_, Lib.hid rfl⟩
  rw [hW.out, hm.out] at hP

  obtain ⟨C, hC⟩ : ∃ C, Hid (addsK W m D (min len2 60) = C) := ⟨_, Lib.hid rfl⟩
  rw [hC.out] at hP
  have HP := Lib.hid hP
  have HU := Lib.hid (hU.belowS hP.bel)
  have hcap3 := hU.cap
  have hcm3 := hU.capMax
  obtain ⟨Ar, nr, cr, hRq⟩ := hP.pr
  have HRq := Lib.hid hRq
  have hnr : nr ≤ 68921 := by have h1 := hRq.row.len; have h2 := hP.pc.len; omega
  clear hP hD hU hRq
  go_wp2_with fail
  go_loopw [12] (fun i wr => ∃ t : Nat, t ≤ len3 ∧ t ≤ 20 ∧ i = .int .i64 t ∧ Hid (Below v2.heap.size v2 wr)) (fun i _ => len3 - (intOf i).toNat)
  case atStart => exact ⟨0, Nat.zero_le _, by omega, rfl, Lib.hid (Below.refl _ _)⟩
  case round =>
    obtain ⟨t, ht, ht2, rfl, HO⟩ := hrel
    by_cases hin : t < len3 ∧ t < 20
    · obtain ⟨hlt, h20⟩ := hin
      have hd : decide ((t : Int) < (len3 : Int)) = true := decide_eq_true (by omega)
      have hd0 : decide (t < len3) = true := decide_eq_true hlt
      have hd5 : decide ((t : Int) < 20) = true := decide_eq_true (by omega)
      have hd6 : decide (t < 20) = true := decide_eq_true h20
      obtain ⟨bA, oA, A', n', c', l, rfl, hbA, hcell, hI, _⟩ := HU.out.at_ hlt
      have i0 : (0 : Int) ≤ (t : Int) := by omega
      have i1 : (t : Int) < (len3 : Int) := by omega
      have KK : Hid (∀ y : World, Below v2.heap.size v2 y → y.cell? ⟨bA, oA + t, none⟩ = some (.slice A' n' c') ∧ HasI y y.heap.size A' n' c' l) := Lib.hid fun y hy => ⟨(hy.cell (p := ⟨bA, oA + t, none⟩) hbA).trans hcell, hI.belowS hy⟩
      have hget := get_any (HP.out.pc.belowS HO.out) (KK.out wr HO.out).2
      rw [getC_is HP.out.pc.ok] at hget
      have HG := Lib.hid hget
      obtain ⟨kc, _⟩ := KK.out wr HO.out
      obtain ⟨G, hG⟩ : ∃ G, Hid (getK C l = G) := ⟨_, Lib.hid rfl⟩
      rw [hG.out] at HG
      clear hcell hI hget hbA
      go_wp2_with fail
      refine HG.out.mono ?_
      rintro e v3 ht3
      clear kc HG
      obtain _ | ⟨q, Su, M, X⟩ := G
      · obtain ⟨rfl, hb3⟩ := ht3
        have hbx := below_then hb3 (below_a1 v3 (.cells #[.int .i64 0, .slice none 0 0, .slice none 0 0, .slice none 0 0] 30))
        have HB4 := Lib.hid (HO.out.trans (hbx.mono HO.out.size))
        have HX4 := Lib.hid (Block.new v3 30 #[.int .i64 0, .slice none 0 0, .slice none 0 0, .slice none 0 0])
        clear hb3 hbx
        go_upto_region 8 with fail
        generalize v3.alloc (.cells #[.int .i64 0, .slice none 0 0, .slice none 0 0, .slice none 0 0] 30) = v4 at HB4 HX4 ⊢
        obtain ⟨xb, hxb⟩ : ∃ xb, v3.heap.size = xb := ⟨_, rfl⟩
        rw [hxb] at HX4 ⊢
        clear hxb
        have hrg := refGetK_any (HRq.out.belowS HB4.out) (KK.out v4 HB4.out).2
        rw [hG.out] at hrg
        have HRG := Lib.hid hrg
        obtain ⟨kc, _⟩ := KK.out v4 HB4.out
        clear hrg
        go_wp2_with fail
        refine HRG.out.mono ?_
        rintro e v5 ht5
        obtain ⟨rfl, hb5⟩ := ht5.none_
        have hal := below_a1 v5 (.cells #[.int .i64 0, .slice none 0 0, .slice none 0 0, .slice none 0 0] 30)
        have hbx := below_then hb5 hal
        have HB6 := Lib.hid (HB4.out.trans (hbx.mono HB4.out.size))
        have HX6 := Lib.hid (And.intro (HX4.out.below hbx HX4.out.lt) (Block.new v5 30 #[.int .i64 0, .slice none 0 0, .slice none 0 0, .slice none 0 0]))
        clear ht5 hb5 hal hbx kc HRG
        go_upto_region 9 with fail
        generalize v5.alloc (.cells #[.int .i64 0, .slice none 0 0, .slice none 0 0, .slice none 0 0] 30) = v6 at HB6 HX6 ⊢
        obtain ⟨yb, hyb⟩ : ∃ yb, v5.heap.size = yb := ⟨_, rfl⟩
        rw [hyb] at HX6 ⊢
        clear hyb
        have x0 : v6.cell? ⟨xb, 0, none⟩ = some (.int .i64 0) := HX6.out.1.cell 0
        have x1 : v6.cell? ⟨xb, 1, none⟩ = some (.slice none 0 0) := HX6.out.1.cell 1
        have x2 : v6.cell? ⟨xb, 2, none⟩ = some (.slice none 0 0) := HX6.out.1.cell 2
        have x3 : v6.cell? ⟨xb, 3, none⟩ = some (.slice none 0 0) := HX6.out.1.cell 3
        have y0 : v6.cell? ⟨yb, 0, none⟩ = some (.int .i64 0) := HX6.out.2.cell 0
        have y1 : v6.cell? ⟨yb, 1, none⟩ = some (.slice none 0 0) := HX6.out.2.cell 1
        have y2 : v6.cell? ⟨yb, 2, none⟩ = some (.slice none 0 0) := HX6.out.2.cell 2
        have y3 : v6.cell? ⟨yb, 3, none⟩ = some (.slice none 0 0) := HX6.out.2.cell 3
        have hsm := Lib.hid (refSame_any (n := 0) (n' := 0) (hasC_zero v6) (hasC_zero v6) (r := true) (by simp))
        go_wp2_with fail
        refine hsm.out.mono ?_
        rintro e v7 ⟨rfl, hb7⟩
        have HB7 := Lib.hid (HB6.out.trans (hb7.mono HB6.out.size))
        clear x0 x1 x2 x3 y0 y1 y2 y3 hsm hb7
        go_wp2_with fail
        go_roundw
        case rel => exact ⟨t + 1, by omega, by omega, by go_num, HB7⟩
        case measure => simp [intOf]; omega
      · obtain ⟨⟨u1, u2, u3, rfl, hO3⟩, hb3⟩ := ht3.some_
        obtain ⟨E1, l1', e1, E2, l2', e2, E3, l3', e3, rfl, rfl, rfl, hE3⟩ := hO3.form
        have hbx := below_then hb3 (below_a1 v3 (.cells #[.int .i64 q, .slice E1 l1' e1, .slice E2 l2' e2, .slice E3 l3' e3] 30))
        have HB4 := Lib.hid (HO.out.trans (hbx.mono HO.out.size))
        have HX4 := Lib.hid (And.intro (Block.new v3 30 #[.int .i64 q, .slice E1 l1' e1, .slice E2 l2' e2, .slice E3 l3' e3]) (hE3.allocS (.cells #[.int .i64 q, .slice E1 l1' e1, .slice E2 l2' e2, .slice E3 l3' e3] 30)))
        clear hb3 hbx ht3 hO3 hE3
        go_upto_region 8 with fail
        generalize v3.alloc (.cells #[.int .i64 q, .slice E1 l1' e1, .slice E2 l2' e2, .slice E3 l3' e3] 30) = v4 at HB4 HX4 ⊢
        obtain ⟨xb, hxb⟩ : ∃ xb, v3.heap.size = xb := ⟨_, rfl⟩
        rw [hxb] at HX4 ⊢
        clear hxb
        have hrg := refGetK_any (HRq.out.belowS HB4.out) (KK.out v4 HB4.out).2
        rw [hG.out] at hrg
        have HRG := Lib.hid hrg
        obtain ⟨kc, _⟩ := KK.out v4 HB4.out
        clear hrg
        go_wp2_with fail
        refine HRG.out.mono ?_
        rintro e v5 ht5
        obtain ⟨⟨B1, m1, d1, B2, m2, d2, B3, m3, d3, rfl, hel⟩, hb5⟩ := ht5.some_
        have hal := below_a1 v5 (.cells #[.int .i64 q, .slice B1 m1 d1, .slice B2 m2 d2, .slice B3 m3 d3] 30)
        have hbx := below_then hb5 hal
        have HB6 := Lib.hid (HB4.out.trans (hbx.mono HB4.out.size))
        have HX6 := Lib.hid (And.intro (HX4.out.1.below hbx HX4.out.1.lt) (And.intro (Block.new v5 30 #[.int .i64 q, .slice B1 m1 d1, .slice B2 m2 d2, .slice B3 m3 d3]) (And.intro (HX4.out.2.belowS hbx) ((elCell_hasC hel).allocS (.cells #[.int .i64 q, .slice B1 m1 d1, .slice B2 m2 d2, .slice B3 m3 d3] 30)))))
        clear ht5 hb5 hal hbx kc HRG hel
        go_upto_region 9 with fail
        generalize v5.alloc (.cells #[.int .i64 q, .slice B1 m1 d1, .slice B2 m2 d2, .slice B3 m3 d3] 30) = v6 at HB6 HX6 ⊢
        obtain ⟨yb, hyb⟩ : ∃ yb, v5.heap.size = yb := ⟨_, rfl⟩
        rw [hyb] at HX6 ⊢
        clear hyb
        have x0 : v6.cell? ⟨xb, 0, none⟩ = some (.int .i64 q) := HX6.out.1.cell 0
        have x1 : v6.cell? ⟨xb, 1, none⟩ = some (.slice E1 l1' e1) := HX6.out.1.cell 1
        have x2 : v6.cell? ⟨xb, 2, none⟩ = some (.slice E2 l2' e2) := HX6.out.1.cell 2
        have x3 : v6.cell? ⟨xb, 3, none⟩ = some (.slice E3 l3' e3) := HX6.out.1.cell 3
        have y0 : v6.cell? ⟨yb, 0, none⟩ = some (.int .i64 q) := HX6.out.2.1.cell 0
        have y1 : v6.cell? ⟨yb, 1, none⟩ = some (.slice B1 m1 d1) := HX6.out.2.1.cell 1
        have y2 : v6.cell? ⟨yb, 2, none⟩ = some (.slice B2 m2 d2) := HX6.out.2.1.cell 2
        have y3 : v6.cell? ⟨yb, 3, none⟩ = some (.slice B3 m3 d3) := HX6.out.2.1.cell 3
        have hsm := Lib.hid (refSame_any (n := q) (n' := q) HX6.out.2.2.1 HX6.out.2.2.2 (r := true) (by simp))
        go_wp2_with fail
        refine hsm.out.mono ?_
        rintro e v7 ⟨rfl, hb7⟩
        have HB7 := Lib.hid (HB6.out.trans (hb7.mono HB6.out.size))
        clear x0 x1 x2 x3 y0 y1 y2 y3 hsm hb7
        go_wp2_with fail
        go_roundw
        case rel => exact ⟨t + 1, by omega, by omega, by go_num, HB7⟩
        case measure => simp [intOf]; omega
    · have hlk := Lib.hid (like_any (HP.out.pc.belowS HO.out) (HRq.out.belowS HO.out))
      have HB4 := Lib.hid (And.intro HP.out.bel HO.out)
      by_cases hlt : t < len3
      · have hd : decide ((t : Int) < (len3 : Int)) = true := decide_eq_true (by omega)
        have hd0 : decide (t < len3) = true := decide_eq_true hlt
        have hd5 : decide ((t : Int) < 20) = false := decide_eq_false (by omega)
        have hd6 : decide (t < 20) = false := decide_eq_false (by omega)
        go_wp2_with fail
        refine hlk.out.mono ?_
        rintro e v5 ⟨rfl, hb5⟩
        have HB5 := Lib.hid (HB4.out.1.trans ((below_then HB4.out.2 hb5).mono HB4.out.1.size))
        clear hlk hb5
        by_cases hlv : 1 ≤ a0 ∧ a0 ≤ 3 ∧ 1 ≤ a1 ∧ a1 ≤ 2
        · have hnew := Lib.hid (new_in hlv v5)
          obtain ⟨q1, q2, q3, q4⟩ := hlv
          have d1 : decide (1 ≤ a0) = true := decide_eq_true (by omega)
          have d2 : decide (a0 ≤ 3) = true := decide_eq_true (by omega)
          have d3 : decide (1 ≤ a1) = true := decide_eq_true (by omega)
          have d4 : decide (a1 ≤ 2) = true := decide_eq_true (by omega)

          go_wp2_with fail
          refine hnew.out.mono ?_
          rintro y w7 ⟨⟨gn, rfl⟩, hb7⟩
          have HN := Lib.hid (below_then HB5.out hb7)
          clear hb7
          go_wp2_with fail
          refine (cubLives_any _).mono ?_
          rintro y wz ⟨rfl, hBz⟩
          have HBz := Lib.hid (below_then HN.out hBz)
          clear hBz
          go_wp2_with fail
          go_ret
          exact ⟨rfl, HBz.out⟩
        · have hnew := Lib.hid (new_no hlv v5)
          by_cases q1 : 1 ≤ a0
          · by_cases q2 : a0 ≤ 3
            · by_cases q3 : 1 ≤ a1
              · have q4 : ¬ a1 ≤ 2 := fun h => hlv ⟨q1, q2, q3, h⟩
                clear hlv
                have d1 : decide (1 ≤ a0) = true := decide_eq_true (by omega)
                have d2 : decide (a0 ≤ 3) = true := decide_eq_true (by omega)
                have d3 : decide (1 ≤ a1) = true := decide_eq_true (by omega)
                have d4 : decide (a1 ≤ 2) = false := decide_eq_false (by omega)

                go_wp2_with fail
                refine hnew.out.mono ?_
                rintro y w7 ⟨rfl, rfl⟩
                go_wp2_with fail
                refine (cubLives_any _).mono ?_
                rintro y wz ⟨rfl, hBz⟩
                have HBz := Lib.hid (below_then HB5.out hBz)
                clear hBz
                go_wp2_with fail
                go_ret
                exact ⟨rfl, HBz.out⟩
              · clear hlv
                have d1 : decide (1 ≤ a0) = true := decide_eq_true (by omega)
                have d2 : decide (a0 ≤ 3) = true := decide_eq_true (by omega)
                have d3 : decide (1 ≤ a1) = false := decide_eq_false (by omega)

                go_wp2_with fail
                refine hnew.out.mono ?_
                rintro y w7 ⟨rfl, rfl⟩
                go_wp2_with fail
                refine (cubLives_any _).mono ?_
                rintro y wz ⟨rfl, hBz⟩
                have HBz := Lib.hid (below_then HB5.out hBz)
                clear hBz
                go_wp2_with fail
                go_ret
                exact ⟨rfl, HBz.out⟩
            · clear hlv
              have d1 : decide (1 ≤ a0) = true := decide_eq_true (by omega)
              have d2 : decide (a0 ≤ 3) = false := decide_eq_false (by omega)

              go_wp2_with fail
              refine hnew.out.mono ?_
              rintro y w7 ⟨rfl, rfl⟩
              go_wp2_with fail
              refine (cubLives_any _).mono ?_
              rintro y wz ⟨rfl, hBz⟩
              have HBz := Lib.hid (below_then HB5.out hBz)
              clear hBz
              go_wp2_with fail
              go_ret
              exact ⟨rfl, HBz.out⟩
          · clear hlv
            have d1 : decide (1 ≤ a0) = false := decide_eq_false (by omega)

            go_wp2_with fail
            refine hnew.out.mono ?_
            rintro y w7 ⟨rfl, rfl⟩
            go_wp2_with fail
            refine (cubLives_any _).mono ?_
            rintro y wz ⟨rfl, hBz⟩
            have HBz := Lib.hid (below_then HB5.out hBz)
            clear hBz
            go_wp2_with fail
            go_ret
            exact ⟨rfl, HBz.out⟩
      · have hd : decide ((t : Int) < (len3 : Int)) = false := decide_eq_false (by omega)
        have hd0 : decide (t < len3) = false := decide_eq_false hlt
        go_wp2_with fail
        refine hlk.out.mono ?_
        rintro e v5 ⟨rfl, hb5⟩
        have HB5 := Lib.hid (HB4.out.1.trans ((below_then HB4.out.2 hb5).mono HB4.out.1.size))
        clear hlk hb5
        by_cases hlv : 1 ≤ a0 ∧ a0 ≤ 3 ∧ 1 ≤ a1 ∧ a1 ≤ 2
        · have hnew := Lib.hid (new_in hlv v5)
          obtain ⟨q1, q2, q3, q4⟩ := hlv
          have d1 : decide (1 ≤ a0) = true := decide_eq_true (by omega)
          have d2 : decide (a0 ≤ 3) = true := decide_eq_true (by omega)
          have d3 : decide (1 ≤ a1) = true := decide_eq_true (by omega)
          have d4 : decide (a1 ≤ 2) = true := decide_eq_true (by omega)

          go_wp2_with fail
          refine hnew.out.mono ?_
          rintro y w7 ⟨⟨gn, rfl⟩, hb7⟩
          have HN := Lib.hid (below_then HB5.out hb7)
          clear hb7
          go_wp2_with fail
          refine (cubLives_any _).mono ?_
          rintro y wz ⟨rfl, hBz⟩
          have HBz := Lib.hid (below_then HN.out hBz)
          clear hBz
          go_wp2_with fail
          go_ret
          exact ⟨rfl, HBz.out⟩
        · have hnew := Lib.hid (new_no hlv v5)
          by_cases q1 : 1 ≤ a0
          · by_cases q2 : a0 ≤ 3
            · by_cases q3 : 1 ≤ a1
              · have q4 : ¬ a1 ≤ 2 := fun h => hlv ⟨q1, q2, q3, h⟩
                clear hlv
                have d1 : decide (1 ≤ a0) = true := decide_eq_true (by omega)
                have d2 : decide (a0 ≤ 3) = true := decide_eq_true (by omega)
                have d3 : decide (1 ≤ a1) = true := decide_eq_true (by omega)
                have d4 : decide (a1 ≤ 2) = false := decide_eq_false (by omega)

                go_wp2_with fail
                refine hnew.out.mono ?_
                rintro y w7 ⟨rfl, rfl⟩
                go_wp2_with fail
                refine (cubLives_any _).mono ?_
                rintro y wz ⟨rfl, hBz⟩
                have HBz := Lib.hid (below_then HB5.out hBz)
                clear hBz
                go_wp2_with fail
                go_ret
                exact ⟨rfl, HBz.out⟩
              · clear hlv
                have d1 : decide (1 ≤ a0) = true := decide_eq_true (by omega)
                have d2 : decide (a0 ≤ 3) = true := decide_eq_true (by omega)
                have d3 : decide (1 ≤ a1) = false := decide_eq_false (by omega)

                go_wp2_with fail
                refine hnew.out.mono ?_
                rintro y w7 ⟨rfl, rfl⟩
                go_wp2_with fail
                refine (cubLives_any _).mono ?_
                rintro y wz ⟨rfl, hBz⟩
                have HBz := Lib.hid (below_then HB5.out hBz)
                clear hBz
                go_wp2_with fail
                go_ret
                exact ⟨rfl, HBz.out⟩
            · clear hlv
              have d1 : decide (1 ≤ a0) = true := decide_eq_true (by omega)
              have d2 : decide (a0 ≤ 3) = false := decide_eq_false (by omega)

              go_wp2_with fail
              refine hnew.out.mono ?_
              rintro y w7 ⟨rfl, rfl⟩
              go_wp2_with fail
              refine (cubLives_any _).mono ?_
              rintro y wz ⟨rfl, hBz⟩
              have HBz := Lib.hid (below_then HB5.out hBz)
              clear hBz
              go_wp2_with fail
              go_ret
              exact ⟨rfl, HBz.out⟩
          · clear hlv
            have d1 : decide (1 ≤ a0) = false := decide_eq_false (by omega)

            go_wp2_with fail
            refine hnew.out.mono ?_
            rintro y w7 ⟨rfl, rfl⟩
            go_wp2_with fail
            refine (cubLives_any _).mono ?_
            rintro y wz ⟨rfl, hBz⟩
            have HBz := Lib.hid (below_then HB5.out hBz)
            clear hBz
            go_wp2_with fail
            go_ret
            exact ⟨rfl, HBz.out⟩

set_option maxRecDepth 100000 in
theorem lifted (os : Os) (started : os.Started) (H : Type) (enc : TypeId × Value → H) :
    ReturnsInHanded {} Tryz.checked os 3 .any (Rows.cuboidPlaysSpec.pre6 enc Tryz.prog Tryz.f3 Rows.cuboidPlaysRow.domain false) (Rows.cuboidPlaysSpec.post enc Tryz.prog Tryz.f3 false true false false) := by
  refine returnsInHanded_of_change (C := Tryz.checked) own started (by kernel_rfl) Tryz.func3
    (ChangeSpec.witness6 (enc := enc) (C := Tryz.checked) false ⟨#[], #[.int .i64 0, .int .i64 0, .slice none 0 0, .slice none 0 0], []⟩ 8 (by kernel_rfl) (by kernel_rfl) (by kernel_rfl) (by kernel_rfl)) ?_
  intro W base args ds gs before hval0 hW hcnd _
  have hval : ∀ (j : Nat) t v, Tryz.f3.params[j]? = some t → args[j]? = some v → Value.okWide Tryz.prog W .any base t v := hval0
  have hW' := hW
  obtain ⟨p, q, hA0, hV, rfl, hfz, hnd⟩ := hW
  have hA : DataW.TrodAll enc Tryz.prog W 0 (fun _ => true) true Tryz.f3.params.toList args.toList ds p := hA0
  rw [Tryz.params3] at hA hval
  obtain ⟨v0, vs0, d0, ds0, p0, q0, hargs, rfl, rfl, h0, r0⟩ := trodAll_cons hA
  obtain ⟨v1, vs1, d1, ds1, p1, q1, rfl, rfl, rfl, h1, r1⟩ := trodAll_cons r0
  obtain ⟨v2, vs2, d2, ds2, p2, q2, rfl, rfl, rfl, h2, r2⟩ := trodAll_cons r1
  obtain ⟨v3, vs3, d3, ds3, p3, q3, rfl, rfl, rfl, h3, r3⟩ := trodAll_cons r2
  obtain ⟨rfl, rfl, rfl⟩ := trodAll_nil r3
  obtain rfl : args = #[v0, v1, v2, v3] := by cases args; simp_all
  obtain ⟨rfl, rfl⟩ := trodVars_none hV
  obtain ⟨a0, rfl, rfl, rfl, w0⟩ := open_int Tryz.underlying3 (hval 0 3 v0 rfl rfl) h0
  obtain ⟨a1, rfl, rfl, rfl, w1⟩ := open_int Tryz.underlying3 (hval 1 3 v1 rfl rfl) h1
  obtain ⟨a2, len2, cap2, rfl⟩ := okWide_slice Tryz.underlying22 (hval 2 22 v2 rfl rfl)
  have k2 := h2
  have lt2 : ∀ x ∈ p2, x.block < W.heap.size := by obtain ⟨m, hm⟩ := k2; exact DataW.trod_lt m _ _ _ hm
  have w2 : RC Tryz.prog W 22 [.slice a2 len2 cap2] := by
    obtain ⟨fuel, hf⟩ := h2
    exact ⟨_, _, _, _, _, fuel, _, hf⟩
  obtain ⟨a3, len3, cap3, rfl⟩ := okWide_slice Tryz.underlying23 (hval 3 23 v3 rfl rfl)
  have k3 := h3
  have lt3 : ∀ x ∈ p3, x.block < W.heap.size := by obtain ⟨m, hm⟩ := k3; exact DataW.trod_lt m _ _ _ hm
  have w3 : RC Tryz.prog W 23 [.slice a3 len3 cap3] := by
    obtain ⟨fuel, hf⟩ := h3
    exact ⟨_, _, _, _, _, fuel, _, hf⟩
  clear hA0 hval0
  refine (walk a0 a1 a2 len2 cap2 a3 len3 cap3 W w0 w1 w2 w3).mono fun e W' ⟨he, bel⟩ => ?_
  subst he
  exact ⟨_, rfl, _, _, _, [], _, [], hW', trodAll_mk1 (shut_bool Tryz.underlying4 _), (trodAll_cons_mk (shut_int Tryz.underlying3 w0) (trodAll_cons_mk (shut_int Tryz.underlying3 w1) (trodAll_cons_mk (Below.trod laidOut (by kernel_rfl) (of_decide_eq_true (by kernel_rfl)) k2 bel lt2) (trodAll_cons_mk (Below.trod laidOut (by kernel_rfl) (of_decide_eq_true (by kernel_rfl)) k3 bel lt3) trodAll_mk0)))), rfl, bel.frame _, fun h => by cases h⟩

theorem over : Rows.cuboidPlaysRow.holds Tryz.pinned (OpenSpec.ofChange Rows.cuboidPlaysSpec) :=
  OpenClaim.holds_of_wide 3 Tryz.f3 rfl rfl rfl rfl rfl rfl rfl ⟨rfl, rfl, rfl, rfl, rfl⟩ rfl rfl rfl rfl rfl (by kernel_rfl) Tryz.func3 (by kernel_rfl)
    (of_decide_eq_true (by kernel_rfl)) (by unfold Func.isWrapper; first | (rw [if_pos (by decide +kernel)]; kernel_rfl) | (rw [if_neg (by decide +kernel)]; exact ⟨rfl, rfl⟩))
    (fun os started H enc _ => lifted os started H enc)

theorem proved : Rows.CuboidPlaysSaid := over
end Go.Proofs.YteifhgcjmjihgaaGreat.cuboidPlays
