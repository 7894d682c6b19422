/- CubRI -/
import Derived.Test.YteifhgcjmjihgaaGreatJ35
import Derived.Test.YteifhgcjmjihgaaGreatJ43
import Derived.Deep.DeepCutAuto
import Derived.Deep.RegionLaw
namespace Go.Proofs.YteifhgcjmjihgaaGreat
set_option maxRecDepth 100000
open Go.RowKit

theorem OwnI.rowS {w : World} {base : Nat} {A : Option Addr} {n c : Nat} {l : List Int} (h : OwnI w base (.slice A n c) l) : Row elInt 1 w (fun k => base ≤ k) A n c l := by
  obtain ⟨A9, c9, e9, hr⟩ := h.row
  obtain ⟨rfl, rfl, rfl⟩ : n = l.length ∧ A = A9 ∧ c = c9 := by injection e9 with a b c; exact ⟨b, a, c⟩
  exact hr.mv elInt_ok (Mv.to w fun b hb _ => hb.1)
set_option maxRecDepth 100000 in
set_option maxHeartbeats 4000000 in
theorem refReadK_no {w : World} {gr : Nat} {a b : Int} (h : ¬ (1 ≤ a ∧ a ≤ 3 ∧ 1 ≤ b ∧ b ≤ 2)) :
    Calls Tryz.prog 20 #[.pointer (some ⟨gr, 0, none⟩), .int .i64 a, .int .i64 b] w fun y w' => (∃ d, y = .returned (.tuple #[.pointer (some ⟨d, 0, none⟩), .bool false])) ∧ Below w.heap.size w w' := by
  have hB := Lib.hid (below_a1 w (.cells #[.int .i64 a, .int .i64 b, .slice none 0 0] 59))
  by_cases h1 : a < 1
  · have d1 : decide (a < 1) = true := decide_eq_true h1
    clear h h1
    go_enter Tryz.func20, Tryz.ntmps20
    go_wp2_with fail
    go_ret2
    exact ⟨⟨_, rfl⟩, hB.out⟩
  · have d1 : decide (a < 1) = false := decide_eq_false h1
    by_cases h2 : 3 < a
    · have d2 : decide (3 < a) = true := decide_eq_true h2
      clear h h1 h2
      go_enter Tryz.func20, Tryz.ntmps20
      go_wp2_with fail
      go_ret2
      exact ⟨⟨_, rfl⟩, hB.out⟩
    · have d2 : decide (3 < a) = false := decide_eq_false h2
      by_cases h3 : b < 1
      · have d3 : decide (b < 1) = true := decide_eq_true h3
        clear h h1 h2 h3
        go_enter Tryz.func20, Tryz.ntmps20
        go_wp2_with fail
        go_ret2
        exact ⟨⟨_, rfl⟩, hB.out⟩
      · have d3 : decide (b < 1) = false := decide_eq_false h3
        have d4 : decide (2 < b) = true := decide_eq_true (by omega)
        clear h h1 h2 h3
        go_enter Tryz.func20, Tryz.ntmps20
        go_wp2_with fail
        go_ret2
        exact ⟨⟨_, rfl⟩, hB.out⟩
set_option maxRecDepth 100000 in
set_option maxHeartbeats 6000000 in
theorem refReadK_any {w : World} {gr W m : Nat} {A : Option Addr} {n c : Nat} {l : List UInt8} {p : Nat} (hW1 : 1 ≤ W) (hW3 : W ≤ 3) (hm1 : 1 ≤ m) (hm2 : m ≤ 2) (hR : Rd 49 w gr A n c l p 0) :
    Calls Tryz.prog 20 #[.pointer (some ⟨gr, 0, none⟩), .int .i64 (W : Int), .int .i64 (m : Int)] w (TellRr w gr W m A n c l (rdC W m l p 0)) := by
  have d1 : decide ((W : Int) < 1) = false := decide_eq_false (by omega)
  have d2 : decide (3 < (W : Int)) = false := decide_eq_false (by omega)
  have d3 : decide ((m : Int) < 1) = false := decide_eq_false (by omega)
  have d4 : decide (2 < (m : Int)) = false := decide_eq_false (by omega)
  have d5 : decide (W < 1) = false := decide_eq_false (by omega)
  have d6 : decide (3 < W) = false := decide_eq_false (by omega)
  have d7 : decide (m < 1) = false := decide_eq_false (by omega)
  have d8 : decide (2 < m) = false := decide_eq_false (by omega)
  have hgl : gr < w.heap.size := hR.lt
  have hb1 := below_a1 w (.cells #[.int .i64 (W : Int), .int .i64 (m : Int), .slice none 0 0] 59)
  have hD1 := Block.new w 59 #[.int .i64 (W : Int), .int .i64 (m : Int), .slice none 0 0]
  have hR1 := hR.grown (row := none) (World.grownBy_alloc w (.cells #[.int .i64 (W : Int), .int .i64 (m : Int), .slice none 0 0] 59) none) (fun k e => by cases e)
  have q2 : (w.alloc (.cells #[.int .i64 (W : Int), .int .i64 (m : Int), .slice none 0 0] 59)).cell? ⟨gr, 2, none⟩ = some (.int .i64 0) := hR1.c2
  obtain ⟨N, k0, e0, hlk, hN⟩ := lkN_nat l p 0 (hi := 64000)
  have hint := refInt_any (w.alloc (.cells #[.int .i64 (W : Int), .int .i64 (m : Int), .slice none 0 0] 59)) gr A n c l p 0 hR1 0 64000
  rw [show (64000 : Int) = ((64000 : Nat) : Int) from rfl, hlk] at hint
  have hz1 : (w.alloc (.cells #[.int .i64 (W : Int), .int .i64 (m : Int), .slice none 0 0] 59)).heap.size = w.heap.size + 1 := World.size_alloc _ _
  have HI := Lib.hid hint
  have H1 := Lib.hid (And.intro hb1 (And.intro hD1 hz1))
  have HC0 : Hid (rdC W m l p 0 = rdMore W m l N [] (p + k0) e0) := Lib.hid (by
    unfold rdC
    rw [show (64000 : Int) = ((64000 : Nat) : Int) from rfl, hlk, Int.toNat_natCast])
  have HN0 : Hid (e0 ≠ 0 → N = 0) := Lib.hid fun he => by
    have h1 : (lk l p 0 0 ((64000 : Nat) : Int)).2.2 = e0 := by rw [hlk]
    have h2 : (lk l p 0 0 ((64000 : Nat) : Int)).1 = (N : Int) := by rw [hlk]
    have h3 : (lk l p 0 0 ((64000 : Nat) : Int)).1 = 0 := by
      by_cases g1 : gE (l.drop p) = 0
      · by_cases g2 : gN (l.drop p) < 0 ∨ ((64000 : Nat) : Int) < gN (l.drop p)
        · rw [lk_far g1 g2]
        · rw [lk_ok g1 g2] at h1
          exact absurd h1.symm he
      · rw [lk_none g1]
    omega
  clear hint hlk hb1 hD1 hR hR1 hz1
  go_enter Tryz.func20, Tryz.ntmps20
  go_wp2_with fail
  clear q2 d1 d2 d3 d4 d5 d6 d7 d8
  generalize w.alloc (.cells #[.int .i64 (W : Int), .int .i64 (m : Int), .slice none 0 0] 59) = W1 at H1 HI ⊢
  refine HI.out.mono ?_
  rintro y w1 ⟨rfl, hR1, hG1⟩
  have HL1 : Hid (Block w1 w.heap.size 59 #[.int .i64 (W : Int), .int .i64 (m : Int), .slice none 0 0] ∧ Rd 49 w1 gr A n c l (p + k0) e0 ∧ w.grownBy w1 (some gr)) := Lib.hid ⟨H1.out.2.1.grown hG1 (fun e => by injection e with e; omega), hR1, grownBy_trans (grown_of H1.out.1 (some gr)) hG1 (fun _ h => .inl h)⟩
  clear HI hR1 hG1
  go_wp2_with fail
  go_loopw [10] (fun i wr => ∃ (t : Nat) (D : Cub) (vD : Value) (pp e : Nat), t ≤ N ∧ i = .int .i64 t ∧ Hid (OwnR elUnd 74 5 wr (w.heap.size + 1) (fun k => w.heap.size < k) vD D ∧ Block wr w.heap.size 59 #[.int .i64 (W : Int), .int .i64 (m : Int), vD] ∧ Rd 49 wr gr A n c l pp e ∧ w.grownBy wr (some gr) ∧ D.length = t ∧ (e ≠ 0 → N = 0) ∧ rdC W m l p 0 = rdMore W m l (N - t) D pp e)) (fun i _ => N - (intOf i).toNat)
  case atStart => exact ⟨0, [], .slice none 0 0, p + k0, e0, Nat.zero_le _, rfl, Lib.hid ⟨OwnR.nil_ _ _ _, HL1.out.1, HL1.out.2.1, HL1.out.2.2, rfl, HN0.out, by rw [HC0.out, Nat.sub_zero]⟩⟩
  case round =>
    clear HL1 H1
    obtain ⟨t, D, vD, pp, e, ht, rfl, HO⟩ := hrel
    by_cases hlt : t < N
    · obtain rfl : e = 0 := Classical.byContradiction fun he => by have := HO.out.2.2.2.2.2.1 he; omega
      have hdl : w.heap.size < wr.heap.size := HO.out.2.1.lt
      obtain ⟨wb, rfl⟩ : ∃ wb, wb = wr := ⟨_, rfl⟩
      have hgb : gr < wb.heap.size := by omega
      go_wp2_with fail
      go_loopw [11, 12] (fun v i wr => ∃ s : Nat, s ≤ W ∧ i = .int .i64 s ∧ Hid (OwnI wr wb.heap.size v (sevN (rdI 0 40) l pp 0 s).1 ∧ Rd 49 wr gr A n c l (sevN (rdI 0 40) l pp 0 s).2.1 (sevN (rdI 0 40) l pp 0 s).2.2 ∧ wb.grownBy wr (some gr))) (fun _ i _ => W - (intOf i).toNat)
      case atStart => exact ⟨0, Nat.zero_le _, rfl, Lib.hid ⟨OwnI.nil_ _ _, HO.out.2.2.1, grown_of (Below.refl _ _) _⟩⟩
      case round =>
        obtain ⟨s, hs, rfl, H2⟩ := hrel
        obtain ⟨Y, hY⟩ : ∃ Y, Hid (sevN (rdI 0 40) l pp 0 s = Y) := ⟨_, Lib.hid rfl⟩
        have hzl := sevN_len (rd := rdI 0 40) (l := l) (p := pp) (e := 0) s
        rw [hY.out] at H2 hzl
        obtain ⟨K, p1, e1⟩ := Y
        simp only at hzl
        have HKl := Lib.hid hzl
        clear hzl
        by_cases hls : s < W
        · obtain ⟨u, hu⟩ : ∃ u, Hid (lk l p1 e1 0 40 = u) := ⟨_, Lib.hid rfl⟩
          have hint := refInt_any wr gr A n c l p1 e1 H2.out.2.1 0 40
          rw [hu.out] at hint
          obtain ⟨x, k3, e3⟩ := u
          have HI := Lib.hid hint
          have HS := Lib.hid (sevN_step hY.out (rdI_is hu.out))
          clear hint
          go_wp2_with fail
          refine HI.out.mono ?_
          rintro y w3 ⟨rfl, hR3, hG3⟩
          have HA := Lib.hid (And.intro ((H2.out.1.grownX hG3 hgb).alloc (.cells #[.int .i64 x] 3)) (And.intro (hR3.grown (row := none) (World.grownBy_alloc w3 (.cells #[.int .i64 x] 3) none) (fun k e => by cases e)) (grownBy_trans (grownBy_trans H2.out.2.2 hG3 (fun _ h => .inl h)) (World.grownBy_alloc w3 (.cells #[.int .i64 x] 3) none) (fun k e => by cases e))))
          have hKl : K.length ≤ 1000000 := by have := HKl.out; omega
          clear hR3 hG3 HI
          go_wp2_with (at_builtin; refine wpList_appI rfl _ _ rfl wb.heap.size _ _ rfl HA.out.1 _ rfl x (cell_lit _ _ _ _ (by simp)) hKl HA.out.2.2.size ?_; intro v4 w4 hO4 hG4)
          have hF : Hid (OwnI w4 wb.heap.size v4 (sevN (rdI 0 40) l pp 0 (s + 1)).1 ∧ Rd 49 w4 gr A n c l (sevN (rdI 0 40) l pp 0 (s + 1)).2.1 (sevN (rdI 0 40) l pp 0 (s + 1)).2.2 ∧ wb.grownBy w4 (some gr)) := Lib.hid (by
            have hb4 := hG4.below_ HA.out.2.2.size (fun g e => (HA.out.1.lt g e).1)
            have hR4 : Rd 49 w4 gr A n c l (p1 + k3) e3 := ⟨HA.out.2.1.block.below hb4 hgb, HA.out.2.1.has.below hb4 (Nat.le_of_lt hgb), HA.out.2.1.at_le, HA.out.2.1.err_le⟩
            have hW4 : wb.grownBy w4 (some gr) := ⟨hb4.os.trans HA.out.2.2.os, hb4.tape.trans HA.out.2.2.tape, hb4.output.trans HA.out.2.2.output, Nat.le_trans HA.out.2.2.size hb4.size, fun k hk hne => (hb4.block k hk).trans (HA.out.2.2.block k hk hne)⟩
            rw [HS.out]
            exact ⟨hO4, hR4, hW4⟩)
          clear hO4 hG4
          go_wp2_with fail
          go_roundw
          case rel => exact ⟨s + 1, by omega, by go_num, hF⟩
          case measure => simp [intOf]; omega
        · obtain rfl : W = s := by omega
          obtain ⟨Ak, nk, ck, rfl, _, _⟩ := H2.out.1.formN
          obtain ⟨u, hu⟩ : ∃ u, Hid (lk l p1 e1 1 1099511627776 = u) := ⟨_, Lib.hid rfl⟩
          have hint := refInt_any wr gr A n c l p1 e1 H2.out.2.1 1 1099511627776
          rw [hu.out] at hint
          obtain ⟨q, k2q, e2q⟩ := u
          have HI := Lib.hid hint
          clear hint
          go_wp2_with fail
          refine HI.out.mono ?_
          rintro y w3 ⟨rfl, hR3, hG3⟩
          have HM0 : Hid (Mid wb (w3.alloc (.cells #[.int .i64 q, .slice none 0 0, .slice none 0 0, .slice none 0 0] 30)) gr w3.heap.size A n c l (p1 + k2q) e2q Ak nk ck K q (.slice none 0 0) (.slice none 0 0) (.slice none 0 0) [] [] []) := Lib.hid (by
            have hrow : Row elInt 1 wr (fun k => wb.heap.size ≤ k ∧ k < wr.heap.size) Ak nk ck K := by
              obtain ⟨A9, c9, e9, hr⟩ := H2.out.1.row
              have hln : nk = K.length ∧ Ak = A9 ∧ ck = c9 := by injection e9 with a b c; exact ⟨b, a, c⟩
              obtain ⟨rfl, rfl, rfl⟩ := hln
              exact hr.mv elInt_ok (Mv.to wr fun b hb hl => ⟨hb.1, hl⟩)
            have hz3 := hG3.size
            have hgz := H2.out.2.2.size
            have hkey : Row elInt 1 (w3.alloc (.cells #[.int .i64 q, .slice none 0 0, .slice none 0 0, .slice none 0 0] 30)) (fun k => wb.heap.size ≤ k ∧ k < w3.heap.size) Ak nk ck K :=
              (hrow.mv elInt_ok (Mv.grown hG3 fun b hb e => by injection e with e; have := hb.1; omega)).mv elInt_ok ((Mv.alloc w3 _ _).trans (Mv.to _ fun b hb _ => ⟨hb.1, by omega⟩))
            exact ⟨hR3.grown (row := none) (World.grownBy_alloc w3 _ none) (fun k e => by cases e), ⟨Block.new w3 30 _, OwnI.nil_ _ _, OwnI.nil_ _ _, OwnI.nil_ _ _, (fun g h => by cases h), (fun g h => by cases h), (fun g h => by cases h)⟩, hkey, grownBy_trans (grownBy_trans H2.out.2.2 hG3 (fun _ h => .inl h)) (World.grownBy_alloc w3 _ none) (fun k e => by cases e), hgb, by omega⟩)
          clear hR3 hG3 HI H2
          go_wp2_with fail
          generalize w3.alloc (.cells #[.int .i64 q, .slice none 0 0, .slice none 0 0, .slice none 0 0] 30) = w4 at HM0 ⊢
          obtain ⟨xb, hxb⟩ : ∃ xb, w3.heap.size = xb := ⟨_, rfl⟩
          rw [hxb] at HM0 ⊢
          clear hxb
          go_loopw [14] (fun i wr => ∃ (s : Nat) (V1 V2 V3 : Value), s ≤ m ∧ i = .int .i64 s ∧ Hid (Mid wb wr gr xb A n c l (sevN rdMeas l (p1 + k2q) e2q s).2.1 (sevN rdMeas l (p1 + k2q) e2q s).2.2 Ak nk ck K q V1 V2 V3 ((sevN rdMeas l (p1 + k2q) e2q s).1.map (·.1)) ((sevN rdMeas l (p1 + k2q) e2q s).1.map (·.2.1)) ((sevN rdMeas l (p1 + k2q) e2q s).1.map (·.2.2)))) (fun i _ => m - (intOf i).toNat)
          case atStart => exact ⟨0, _, _, _, Nat.zero_le _, rfl, by simpa [sevN] using HM0⟩
          case round =>
            clear HM0
            obtain ⟨s, V1, V2, V3, hs, rfl, HM⟩ := hrel
            have HKY := hY
            clear hY
            obtain ⟨Y, hY⟩ : ∃ Y, Hid (sevN rdMeas l (p1 + k2q) e2q s = Y) := ⟨_, Lib.hid rfl⟩
            have hzl := sevN_len (rd := rdMeas) (l := l) (p := p1 + k2q) (e := e2q) s
            rw [hY.out] at HM hzl
            obtain ⟨T, pT, eT⟩ := Y
            simp only at hzl HM
            have HLn : Hid (T.length = s) := Lib.hid hzl
            clear hzl
            by_cases hlm : s < m
            · obtain ⟨u1, hu1⟩ : ∃ u, Hid (lk l pT eT (-4611686018427387904) 4611686018427387904 = u) := ⟨_, Lib.hid rfl⟩
              have hint := refInt_any wr.drew gr A n c l pT eT (HM.out.rd.drewN 1) (-4611686018427387904) 4611686018427387904
              rw [hu1.out] at hint
              obtain ⟨x1, k1, e1⟩ := u1
              have HI3 := Lib.hid hint
              have hlb : Hid ((T.map (·.1)).length ≤ 1000000) := Lib.hid (by have h := HLn.out; simp; omega)
              obtain ⟨A1, n1, c1, rfl, _, _⟩ := HM.out.x.r1.formN
              obtain ⟨A2, n2, c2, rfl, _, _⟩ := HM.out.x.r2.formN
              obtain ⟨A3, n3, c3, rfl, _, _⟩ := HM.out.x.r3.formN
              have p0 : wr.cell? ⟨xb, 1, none⟩ = some (.slice A1 n1 c1) := HM.out.x.blk.cell 1
              clear hint
              go_upto_region 17 with fail
              go_cut [14] (fun s9 wx => s9 = .int .i64 s ∧ ∃ v9, Hid (Mid wb wx gr xb A n c l (pT + k1) e1 Ak nk ck K q v9 (.slice A2 n2 c2) (.slice A3 n3 c3) ((T.map (·.1) ++ [x1])) (T.map (·.2.1)) (T.map (·.2.2))))
              case first =>
                go_region_law (first
                  | (refine step_appI rfl _ _ rfl xb (.slice A1 n1 c1) (T.map (·.1)) rfl HM7.out.x.r1 _ rfl x1 HC7.out hlb.out HM7.out.size ?_; intro v' w8 hO8 hG8; obtain ⟨A9, N9, c9, e9, _⟩ := hO8.formN; subst e9; obtain ⟨hb8, hM8⟩ := HM7.out.app1 hO8 hG8; have p8 : w8.cell? ⟨xb, 1, none⟩ = some (.slice A1 n1 c1) := hb8.cell 1; have f8 := hb8.free 1; have HM8 := Lib.hid hM8; clear hM8 hb8 hO8 hG8)
                  | (go_simp; go_at_call 47; refine HI3.out.mono ?_; rintro y w6 ⟨rfl, hR6, hG6⟩; have HM6 := Lib.hid ((HM.out.below (below_drewN (Below.refl _ _) 1)).int hR6 hG6); have p6 : w6.cell? ⟨xb, 1, none⟩ = some (.slice A1 n1 c1) := HM6.out.x.blk.cell 1; have HM7 := Lib.hid (HM6.out.below (below_a1 w6 (.cells #[.int .i64 x1] 3))); have HC7 := Lib.hid (cell_lit w6 x1 3 w6.heap.size rfl); have pa : (w6.alloc (.cells #[.int .i64 x1] 3)).cell? ⟨xb, 1, none⟩ = some (.slice A1 n1 c1) := HM7.out.x.blk.cell 1; clear hR6 hG6))
                all_goals
                  clear p8 f8 p6 pa p0 HC7 HM7 HM6 HI3
                  go_wp2_with fail
                  go_meet
                  exact ⟨rfl, _, HM8⟩
              case rest =>
                obtain ⟨rfl, v9, H1⟩ := hcut
                obtain ⟨u2, hu2⟩ : ∃ u, Hid (lk l (pT + k1) e1 (-2305843009213693952) 2305843009213693952 = u) := ⟨_, Lib.hid rfl⟩
                have hint := refInt_any wc.drew gr A n c l (pT + k1) e1 (H1.out.rd.drewN 1) (-2305843009213693952) 2305843009213693952
                rw [hu2.out] at hint
                obtain ⟨x2, k2, e2⟩ := u2
                have HI3 := Lib.hid hint
                have hlb : Hid ((T.map (·.2.1)).length ≤ 1000000) := Lib.hid (by have h := HLn.out; simp; omega)
                obtain ⟨A4, n4, c4, rfl, _, _⟩ := H1.out.x.r1.formN
                have p0 : wc.cell? ⟨xb, 2, none⟩ = some (.slice A2 n2 c2) := H1.out.x.blk.cell 2
                clear hint
                go_upto_region 18 with fail
                go_cut [14] (fun s9 wx => s9 = .int .i64 s ∧ ∃ v9, Hid (Mid wb wx gr xb A n c l ((pT + k1) + k2) e2 Ak nk ck K q (.slice A4 n4 c4) v9 (.slice A3 n3 c3) ((T.map (·.1) ++ [x1])) ((T.map (·.2.1) ++ [x2])) (T.map (·.2.2))))
                case first =>
                  go_region_law (first
                    | (refine step_appI rfl _ _ rfl xb (.slice A2 n2 c2) (T.map (·.2.1)) rfl HM7.out.x.r2 _ rfl x2 HC7.out hlb.out HM7.out.size ?_; intro v' w8 hO8 hG8; obtain ⟨A9, N9, c9, e9, _⟩ := hO8.formN; subst e9; obtain ⟨hb8, hM8⟩ := HM7.out.app2 hO8 hG8; have p8 : w8.cell? ⟨xb, 2, none⟩ = some (.slice A2 n2 c2) := hb8.cell 2; have f8 := hb8.free 2; have HM8 := Lib.hid hM8; clear hM8 hb8 hO8 hG8)
                    | (go_simp; go_at_call 47; refine HI3.out.mono ?_; rintro y w6 ⟨rfl, hR6, hG6⟩; have HM6 := Lib.hid ((H1.out.below (below_drewN (Below.refl _ _) 1)).int hR6 hG6); have p6 : w6.cell? ⟨xb, 2, none⟩ = some (.slice A2 n2 c2) := HM6.out.x.blk.cell 2; have HM7 := Lib.hid (HM6.out.below (below_a1 w6 (.cells #[.int .i64 x2] 3))); have HC7 := Lib.hid (cell_lit w6 x2 3 w6.heap.size rfl); have pa : (w6.alloc (.cells #[.int .i64 x2] 3)).cell? ⟨xb, 2, none⟩ = some (.slice A2 n2 c2) := HM7.out.x.blk.cell 2; clear hR6 hG6))
                  all_goals
                    clear p8 f8 p6 pa p0 HC7 HM7 HM6 HI3
                    go_wp2_with fail
                    go_meet
                    exact ⟨rfl, _, HM8⟩
                case rest =>
                  obtain ⟨rfl, v9, H2⟩ := hcut
                  obtain ⟨u3, hu3⟩ : ∃ u, Hid (lk l (pT + k1 + k2) e2 (-2305843009213693952) 2305843009213693952 = u) := ⟨_, Lib.hid rfl⟩
                  have hint := refInt_any wc.drew gr A n c l (pT + k1 + k2) e2 (H2.out.rd.drewN 1) (-2305843009213693952) 2305843009213693952
                  rw [hu3.out] at hint
                  obtain ⟨x3, k3, e3⟩ := u3
                  have HI3 := Lib.hid hint
                  have hlb : Hid ((T.map (·.2.2)).length ≤ 1000000) := Lib.hid (by have h := HLn.out; simp; omega)
                  obtain ⟨A5, n5, c5, rfl, _, _⟩ := H2.out.x.r2.formN
                  have p0 : wc.cell? ⟨xb, 3, none⟩ = some (.slice A3 n3 c3) := H2.out.x.blk.cell 3
                  clear hint
                  go_upto_region 19 with fail
                  go_region_law (first
                    | (refine step_appI rfl _ _ rfl xb (.slice A3 n3 c3) (T.map (·.2.2)) rfl HM7.out.x.r3 _ rfl x3 HC7.out hlb.out HM7.out.size ?_; intro v' w8 hO8 hG8; obtain ⟨A9, N9, c9, e9, _⟩ := hO8.formN; subst e9; obtain ⟨hb8, hM8⟩ := HM7.out.app3 hO8 hG8; have p8 : w8.cell? ⟨xb, 3, none⟩ = some (.slice A3 n3 c3) := hb8.cell 3; have f8 := hb8.free 3; have HM8 := Lib.hid hM8; clear hM8 hb8 hO8 hG8)
                    | (go_simp; go_at_call 47; refine HI3.out.mono ?_; rintro y w6 ⟨rfl, hR6, hG6⟩; have HM6 := Lib.hid ((H2.out.below (below_drewN (Below.refl _ _) 1)).int hR6 hG6); have p6 : w6.cell? ⟨xb, 3, none⟩ = some (.slice A3 n3 c3) := HM6.out.x.blk.cell 3; have HM7 := Lib.hid (HM6.out.below (below_a1 w6 (.cells #[.int .i64 x3] 3))); have HC7 := Lib.hid (cell_lit w6 x3 3 w6.heap.size rfl); have pa : (w6.alloc (.cells #[.int .i64 x3] 3)).cell? ⟨xb, 3, none⟩ = some (.slice A3 n3 c3) := HM7.out.x.blk.cell 3; clear hR6 hG6))
                  all_goals
                    clear p8 f8 p6 pa p0 HC7 HM7 HM6 HI3
                    have HTs := Lib.hid (sevN_step hY.out (rdTwo_is (rdI_is hu1.out) (rdTwo_is (rdI_is hu2.out) (rdI_is hu3.out))))
                    have hF : Hid (Mid wb (w8.setCell ⟨xb, 3, none⟩ (.slice A9 N9 c9)) gr xb A n c l (sevN rdMeas l (p1 + k2q) e2q (s + 1)).2.1 (sevN rdMeas l (p1 + k2q) e2q (s + 1)).2.2 Ak nk ck K q (.slice A4 n4 c4) (.slice A5 n5 c5) (.slice A9 N9 c9) ((sevN rdMeas l (p1 + k2q) e2q (s + 1)).1.map (·.1)) ((sevN rdMeas l (p1 + k2q) e2q (s + 1)).1.map (·.2.1)) ((sevN rdMeas l (p1 + k2q) e2q (s + 1)).1.map (·.2.2))) := Lib.hid (by
                      rw [HTs.out]
                      simpa using HM8.out)
                    go_wp2_with fail
                    go_roundw
                    case rel => exact ⟨s + 1, _, _, _, by omega, by go_num, hF⟩
                    case measure => simp [intOf]; omega
            · obtain rfl : m = s := by omega
              have HDl : Hid (D.length = t) := Lib.hid HO.out.2.2.2.2.1
              obtain ⟨AD, cD, eD⟩ := HO.out.1.shape
              rw [HDl.out] at eD
              subst eD
              obtain ⟨A1, n1, c1, rfl, g1, _⟩ := HM.out.x.r1.formN
              obtain ⟨A2, n2, c2, rfl, g2, _⟩ := HM.out.x.r2.formN
              obtain ⟨A3, n3, c3, rfl, g3, _⟩ := HM.out.x.r3.formN
              have HOne := Lib.hid (rdOneK_is HKY.out hu.out hY.out)
              obtain ⟨Su, hSu⟩ : ∃ L, Hid (T.map (·.1) = L) := ⟨_, Lib.hid rfl⟩
              obtain ⟨M, hM⟩ : ∃ L, Hid (T.map (·.2.1) = L) := ⟨_, Lib.hid rfl⟩
              obtain ⟨X, hX⟩ : ∃ L, Hid (T.map (·.2.2) = L) := ⟨_, Lib.hid rfl⟩
              rw [hSu.out, hM.out, hX.out] at HM HOne
              rw [hSu.out] at g1
              rw [hM.out] at g2
              rw [hX.out] at g3
              have HC := Lib.hid (show HasC wr wr.heap.size A1 n1 c1 A2 n2 c2 A3 n3 c3 Su M X from ⟨g1, g2, g3⟩)
              have HLt : Hid (∀ g, (Value.slice AD t cD).ownBlock = some g → w.heap.size + 1 ≤ g ∧ g < wb.heap.size) := Lib.hid HO.out.1.lt
              have HFr : Hid (∀ y : World, wb.grownBy y (some gr) → OwnR elUnd 74 5 y (w.heap.size + 1) (fun k => w.heap.size < k) (.slice AD t cD) D ∧ Block y w.heap.size 59 #[.int .i64 (W : Int), .int .i64 (m : Int), .slice AD t cD] ∧ w.grownBy y (some gr)) := Lib.hid fun y hy =>
                ⟨HO.out.1.grown elUnd_ok hy (fun e => by have := (HO.out.1.lt _ e).1; omega) (by omega), HO.out.2.1.grown hy (fun e => by injection e with e; omega), grownBy_trans HO.out.2.2.2.1 hy (fun _ h => .inl h)⟩
              have HMore : Hid (rdC W m l p 0 = rdMore W m l (N - t) D pp 0) := Lib.hid HO.out.2.2.2.2.2.2
              clear HO g1 g2 g3 hY hSu hM hX
              by_cases he : eT = 0
              · subst he
                have e2c : wr.cell? ⟨gr, 2, none⟩ = some (.int .i64 0) := HM.out.rd.c2
                have x0 : wr.cell? ⟨xb, 0, none⟩ = some (.int .i64 q) := HM.out.x.blk.cell 0
                have x1 : wr.cell? ⟨xb, 1, none⟩ = some (.slice A1 n1 c1) := HM.out.x.blk.cell 1
                have x2 : wr.cell? ⟨xb, 2, none⟩ = some (.slice A2 n2 c2) := HM.out.x.blk.cell 2
                have x3 : wr.cell? ⟨xb, 3, none⟩ = some (.slice A3 n3 c3) := HM.out.x.blk.cell 3
                obtain ⟨b, hb⟩ : ∃ b : Bool, Hid (b = true ↔ cMay (q, Su, M, X)) := ⟨decide (cMay (q, Su, M, X)), Lib.hid (by simp)⟩
                have hMay := Lib.hid (refMay_any5 (n := q) HC.out (r := b) hb.out)
                go_wp2_with fail
                refine hMay.out.mono ?_
                rintro y w5 ⟨rfl, hb5⟩
                have HM5 := Lib.hid (HM.out.below hb5)
                have HD5 := Lib.hid (HFr.out w5 HM5.out.gro)
                obtain ⟨rb, hrb⟩ : ∃ rb, Hid (decide (D = [] ∨ lessK (D.getLastD ([], zeroC)).1 K = true) = rb) := ⟨_, Lib.hid rfl⟩
                have dc : w5.cell? ⟨w.heap.size, 2, none⟩ = some (.slice AD t cD) := HD5.out.2.1.cell 2
                clear e2c x0 x1 x2 x3 hMay hb5 HM HC
                go_upto_if 104 with fail
                go_cut [16] (fun s9 wx => s9 = .bool rb ∧ Hid (Mid wb wx gr xb A n c l pT 0 Ak nk ck K q (.slice A1 n1 c1) (.slice A2 n2 c2) (.slice A3 n3 c3) Su M X))
                case first =>
                  by_cases h0 : t = 0
                  · obtain rfl : rb = true := by
                      rw [← hrb.out]
                      exact decide_eq_true (.inl (List.eq_nil_of_length_eq_zero (by rw [HDl.out]; exact h0)))
                    subst h0
                    go_wp2_with fail
                    go_meet
                    exact ⟨rfl, HM5⟩
                  · have hz : ((t : Int) == 0) = false := by simp [h0]
                    obtain ⟨tp, htp⟩ : ∃ tp, Hid (t = tp + 1) := ⟨t - 1, Lib.hid (by omega)⟩
                    obtain ⟨A9, c9, e9, hRow⟩ := HD5.out.1.read elUnd_ok
                    rw [HDl.out] at e9 hRow
                    obtain ⟨rfl, rfl⟩ : AD = A9 ∧ cD = c9 := by injection e9 with a b c; exact ⟨a, c⟩
                    obtain ⟨b9, o9, A0, n0, c0, _, _, _, _, _, _, _, _, _, _, K0, _, _, _, rfl, _, _, g0, _, _, _, _, hK0, _, _, _, hlast⟩ := hRow.atU (k := tp) (by have := htp.out; omega)
                    have hrl : Hid (rb = lessK K0 K) := Lib.hid (by
                      have h1 : D.getLastD ([], zeroC) = _ := last_is (by rw [show D.length - 1 = tp by have := HDl.out; have := htp.out; omega]; exact hlast.out)
                      rw [← hrb.out, h1]
                      simp only
                      have h2 : ¬ D = [] := fun e => h0 (by rw [← HDl.out, e]; rfl)
                      rcases hlk : lessK K0 K with _ | _
                      · exact decide_eq_false (fun h => by rcases h with h | h; exact h2 h; cases h)
                      · exact decide_eq_true (.inr rfl))
                    have hw : IntKind.i64.wrap ((t : Int) - 1) = (tp : Int) := by rw [IntWalk.i64_in _ (by omega)]; have := htp.out; omega
                    have i0 : (0 : Int) ≤ (tp : Int) := by omega
                    have i1 : (tp : Int) < (t : Int) := by have := htp.out; omega
                    have HLS : Hid (∀ q, Calls Tryz.prog 49 #[.slice A0 n0 c0, .slice Ak nk ck] (w5.drewN q) fun e w' => e = .returned (.bool rb) ∧ ∃ k, w' = (w5.drewN q).drewN k) := Lib.hid fun q => by
                      have h := refLessK_any (w := w5.drewN q) (hK0.hasI.drewN q) (HM5.out.key.hasI.drewN q)
                      rw [← hrl.out] at h
                      exact h
                    have hz2 : (!((t : Int) == 0)) = true := by simp [h0]
                    clear hRow hK0 e9
                    go_wp2_with fail
                    rotate_left
                    · rename_i hx
                      rw [hz2] at hx
                      cases hx
                    go_quiet ((go_at_call 49; exact Calls.quiet_of (HLS.out _)))
                    go_wp2_with fail
                    go_meet
                    exact ⟨rfl, Lib.hid (HM5.out.below (below_drewN (Below.refl _ _) _))⟩
                case rest =>
                  obtain ⟨rfl, HM6⟩ := hcut
                  clear HM5 HD5 dc
                  have HD6 := Lib.hid (HFr.out wc HM6.out.gro)
                  have dc : wc.cell? ⟨w.heap.size, 2, none⟩ = some (.slice AD t cD) := HD6.out.2.1.cell 2
                  by_cases hgood : b = true ∧ rb = true
                  · obtain ⟨rfl, rfl⟩ := hgood
                    have HV : Hid (rdC W m l p 0 = rdMore W m l (N - (t + 1)) (D ++ [(K, q, Su, M, X)]) pT 0) := Lib.hid (by
                      rw [HMore.out, show N - t = (N - (t + 1)) + 1 by omega, rdMore, HOne.out]
                      simp only
                      rw [if_neg (by simp), if_pos ⟨hb.out.1 rfl, of_decide_eq_true hrb.out⟩])
                    have x0 : wc.cell? ⟨xb, 0, none⟩ = some (.int .i64 q) := HM6.out.x.blk.cell 0
                    have x1 : wc.cell? ⟨xb, 1, none⟩ = some (.slice A1 n1 c1) := HM6.out.x.blk.cell 1
                    have x2 : wc.cell? ⟨xb, 2, none⟩ = some (.slice A2 n2 c2) := HM6.out.x.blk.cell 2
                    have x3 : wc.cell? ⟨xb, 3, none⟩ = some (.slice A3 n3 c3) := HM6.out.x.blk.cell 3
                    have hal := Lib.hid ((below_drewN (Below.refl _ wc) 1).alloc (Nat.le_refl _) (.cells #[.slice Ak nk ck, .int .i64 q, .slice A1 n1 c1, .slice A2 n2 c2, .slice A3 n3 c3] 74))
                    have HG7 := Lib.hid (HFr.out (wc.drew.alloc (.cells #[.slice Ak nk ck, .int .i64 q, .slice A1 n1 c1, .slice A2 n2 c2, .slice A3 n3 c3] 74)) (grownBy_trans HM6.out.gro (grown_of hal.out none) (fun k e => by cases e)))
                    have HM7 := Lib.hid (HM6.out.below hal.out)
                    have HE : Hid (elUnd (wc.drew.alloc (.cells #[.slice Ak nk ck, .int .i64 q, .slice A1 n1 c1, .slice A2 n2 c2, .slice A3 n3 c3] 74)) (fun k => w.heap.size < k ∧ (Value.slice AD t cD).ownBlock ≠ some k) [.slice Ak nk ck, .int .i64 q, .slice A1 n1 c1, .slice A2 n2 c2, .slice A3 n3 c3] (K, q, Su, M, X)) := Lib.hid (by
                      have hm : ∀ k, wb.heap.size ≤ k → w.heap.size < k ∧ (Value.slice AD t cD).ownBlock ≠ some k := fun k hk => ⟨by omega, fun e => by have := (HLt.out k e).2; omega⟩
                      have hmid := HM6.out.mid
                      exact elUnd_mk (HM7.out.key.mv elInt_ok (Mv.to _ fun k hk _ => hm k hk.1)) (HM7.out.x.r1.rowS.mv elInt_ok (Mv.to _ fun k hk _ => hm k (Nat.le_trans hmid hk))) (HM7.out.x.r2.rowS.mv elInt_ok (Mv.to _ fun k hk _ => hm k (Nat.le_trans hmid hk))) (HM7.out.x.r3.rowS.mv elInt_ok (Mv.to _ fun k hk _ => hm k (Nat.le_trans hmid hk))))
                    have hlen : Hid (D.length ≤ 1000000) := Lib.hid (by have := HDl.out; omega)
                    have hbs : Hid (w.heap.size + 1 ≤ (wc.drew.alloc (.cells #[.slice Ak nk ck, .int .i64 q, .slice A1 n1 c1, .slice A2 n2 c2, .slice A3 n3 c3] 74)).heap.size) := Lib.hid HG7.out.2.1.lt
                    have dca : (wc.alloc (.cells #[.slice Ak nk ck, .int .i64 q, .slice A1 n1 c1, .slice A2 n2 c2, .slice A3 n3 c3] 74)).drew.cell? ⟨w.heap.size, 2, none⟩ = some (.slice AD t cD) := HG7.out.2.1.cell 2
                    have dcb : (wc.drew.alloc (.cells #[.slice Ak nk ck, .int .i64 q, .slice A1 n1 c1, .slice A2 n2 c2, .slice A3 n3 c3] 74)).cell? ⟨w.heap.size, 2, none⟩ = some (.slice AD t cD) := HG7.out.2.1.cell 2
                    go_upto_region 29 with fail
                    go_region_law (refine step_appX elUnd_ok rfl _ _ rfl info_one Tryz.underlying57 rfl (by decide) (w.heap.size + 1) _ (.slice AD t cD) D rfl HG7.out.1 _ rfl [.slice Ak nk ck, .int .i64 q, .slice A1 n1 c1, .slice A2 n2 c2, .slice A3 n3 c3] rfl (K, q, Su, M, X) (lit_at wc.drew [.slice Ak nk ck, .int .i64 q, .slice A1 n1 c1, .slice A2 n2 c2, .slice A3 n3 c3] _) (und_one _ _ _ _ _ _ _ _ _ _ _ _ _) HE.out hlen.out hbs.out ?_; intro v8 w8 hO8 hG8; obtain ⟨A8, c8, e8⟩ := hO8.shape; obtain ⟨n8, hn8⟩ : ∃ n8, Hid ((D ++ [(K, q, Su, M, X)]).length = n8) := ⟨_, Lib.hid rfl⟩; rw [hn8.out] at e8; subst e8; have hb8 := HG7.out.2.1.grown hG8.1 (fun e => by have := (HLt.out _ e).1; omega); have p8 : w8.cell? ⟨w.heap.size, 2, none⟩ = some (.slice AD t cD) := hb8.cell 2; have f8 := hb8.free 2; have H8 := Lib.hid (And.intro hO8 (And.intro hG8 hb8)); clear hO8 hG8 hb8)
                    all_goals
                      have hF : Hid (OwnR elUnd 74 5 (w8.setCell ⟨w.heap.size, 2, none⟩ (.slice A8 n8 c8)) (w.heap.size + 1) (fun k => w.heap.size < k) (.slice A8 n8 c8) (D ++ [(K, q, Su, M, X)]) ∧ Block (w8.setCell ⟨w.heap.size, 2, none⟩ (.slice A8 n8 c8)) w.heap.size 59 #[.int .i64 (W : Int), .int .i64 (m : Int), .slice A8 n8 c8] ∧ Rd 49 (w8.setCell ⟨w.heap.size, 2, none⟩ (.slice A8 n8 c8)) gr A n c l pT 0 ∧ w.grownBy (w8.setCell ⟨w.heap.size, 2, none⟩ (.slice A8 n8 c8)) (some gr) ∧ (D ++ [(K, q, Su, M, X)]).length = t + 1 ∧ ((0 : Nat) ≠ 0 → N = 0) ∧ rdC W m l p 0 = rdMore W m l (N - (t + 1)) (D ++ [(K, q, Su, M, X)]) pT 0) := Lib.hid (by
                        have hbel : Below w.heap.size (wc.drew.alloc (.cells #[.slice Ak nk ck, .int .i64 q, .slice A1 n1 c1, .slice A2 n2 c2, .slice A3 n3 c3] 74)) (w8.setCell ⟨w.heap.size, 2, none⟩ (.slice A8 n8 c8)) := (H8.out.2.1.below_ (Nat.le_of_succ_le hbs.out) (fun g e => by have := (HLt.out g e).1; omega)).setCell (p := ⟨w.heap.size, 2, none⟩) (Nat.le_refl _) _
                        have hw9 : w.grownBy (w8.setCell ⟨w.heap.size, 2, none⟩ (.slice A8 n8 c8)) (some gr) := ⟨hbel.os.trans HG7.out.2.2.os, hbel.tape.trans HG7.out.2.2.tape, hbel.output.trans HG7.out.2.2.output, Nat.le_trans HG7.out.2.2.size hbel.size, fun k hk hne => (hbel.block k hk).trans (HG7.out.2.2.block k hk hne)⟩
                        exact ⟨H8.out.1.grown elUnd_ok (grown_set w8 w.heap.size 2 _) (fun e => by have := (H8.out.1.lt _ e).1; omega) (Nat.lt_irrefl _), H8.out.2.2.set_ 2 _, ⟨HM7.out.rd.block.below hbel hgl, HM7.out.rd.has.below hbel (Nat.le_of_lt hgl), HM7.out.rd.at_le, HM7.out.rd.err_le⟩, hw9, by simp; exact HDl.out, fun h => absurd rfl h, HV.out⟩)
                      clear p8 f8 dca dcb dc x0 x1 x2 x3 H8 HG7 HM7 HE
                      go_wp2_with fail
                      go_roundw
                      case rel => exact ⟨t + 1, _, _, pT, 0, by omega, by go_num, hF⟩
                      case measure => simp [intOf]; omega
                  · have HV : Hid (rdC W m l p 0 = (none, pT, 2)) := Lib.hid (by
                      rw [HMore.out, show N - t = (N - (t + 1)) + 1 by omega, rdMore, HOne.out]
                      simp only
                      rw [if_neg (by simp), if_neg (fun h => hgood ⟨hb.out.2 h.1, by rw [← hrb.out]; exact decide_eq_true h.2⟩)])
                    have HB := Lib.hid (refBad_any wc gr A n c l pT 0 HM6.out.rd)
                    cases b with
                    | false =>
                      clear hgood
                      go_wp2_with fail
                      refine HB.out.mono ?_
                      rintro y w7 ⟨rfl, hR7, hG7⟩
                      have HF := Lib.hid (And.intro hR7 (grownBy_trans HD6.out.2.2 hG7 (fun _ h => .inl h)))
                      clear hR7 hG7 dc
                      go_wp2_with fail
                      go_ret2
                      rw [HV.out]
                      exact ⟨⟨w.heap.size, .inr ⟨rfl, rfl⟩⟩, HF.out.1, HF.out.2⟩
                    | true =>
                      cases rb with
                      | true => exact absurd ⟨rfl, rfl⟩ hgood
                      | false =>
                        clear hgood
                        go_wp2_with fail
                        refine HB.out.mono ?_
                        rintro y w7 ⟨rfl, hR7, hG7⟩
                        have HF := Lib.hid (And.intro hR7 (grownBy_trans HD6.out.2.2 hG7 (fun _ h => .inl h)))
                        clear hR7 hG7 dc
                        go_wp2_with fail
                        go_ret2
                        rw [HV.out]
                        exact ⟨⟨w.heap.size, .inr ⟨rfl, rfl⟩⟩, HF.out.1, HF.out.2⟩
              · have hee : ((eT : Int) != 0) = true := by simp; omega
                have e2c : wr.cell? ⟨gr, 2, none⟩ = some (.int .i64 (eT : Int)) := HM.out.rd.c2
                have HV : Hid (rdC W m l p 0 = (none, pT, eT)) := Lib.hid (by
                  rw [HMore.out, show N - t = (N - (t + 1)) + 1 by omega, rdMore, HOne.out]
                  exact if_pos he)
                have HF := Lib.hid (And.intro HM.out.rd (HFr.out wr HM.out.gro).2.2)
                clear he
                go_wp2_with fail
                go_ret2
                rw [HV.out]
                exact ⟨⟨w.heap.size, .inr ⟨rfl, rfl⟩⟩, HF.out.1, HF.out.2⟩
    · have HV : Hid (rdC W m l p 0 = (if e = 0 then some D else none, pp, e)) := Lib.hid (by
        rw [HO.out.2.2.2.2.2.2, show N - t = 0 by omega, rdMore])
      have e2c : wr.cell? ⟨gr, 2, none⟩ = some (.int .i64 (e : Int)) := HO.out.2.2.1.c2
      have HF : Hid (∀ q, (∃ Ad nd cd, Rq (wr.drewN q) w.heap.size W m (fun k => w.heap.size ≤ k ∧ k ≠ w.heap.size) Ad nd cd D) ∧ Rd 49 (wr.drewN q) gr A n c l pp e ∧ w.grownBy (wr.drewN q) (some gr)) := Lib.hid fun q => by
        obtain ⟨Ad, cd, ev, hrow⟩ := HO.out.1.read elUnd_ok
        have hblk := HO.out.2.1
        rw [ev] at hblk
        exact ⟨⟨Ad, D.length, cd, hblk.drewN q, (hrow.mv elUnd_ok (Mv.to wr fun k hk _ => by
          rcases hk with hk | hk
          · exact ⟨Nat.le_of_lt hk, by omega⟩
          · exact ⟨by omega, by omega⟩)).mv elUnd_ok (Mv.drewN wr q _)⟩, HO.out.2.2.1.drewN q, grown_drewN HO.out.2.2.2.1 q⟩
      by_cases he : e = 0
      · subst he
        have hee : (((0 : Nat) : Int) == 0) = true := by simp
        clear HO
        go_wp2_with fail
        go_quiet (fail)
        go_wp2_with fail
        go_ret2
        rw [HV.out]
        obtain ⟨⟨Ad, nd, cd, h1⟩, h2, h3⟩ := HF.out nq
        exact ⟨⟨w.heap.size, .inl ⟨D, Ad, nd, cd, rfl, rfl, Nat.le_refl _, h1⟩⟩, h2, h3⟩
      · have hee : ((e : Int) == 0) = false := by simpa using he
        rw [if_neg he] at HV
        clear HO he
        go_wp2_with fail
        go_quiet (fail)
        go_wp2_with fail
        go_ret2
        rw [HV.out]
        exact ⟨⟨w.heap.size, .inr ⟨rfl, rfl⟩⟩, (HF.out _).2⟩
end Go.Proofs.YteifhgcjmjihgaaGreat
