/- CubRC, CubRD, CubRF, CubL4 -/
import Derived.Test.YteifhgcjmjihgaaJ2
import Derived.Test.YteifhgcjmjihgaaJ15
import Derived.Test.YteifhgcjmjihgaaJ19
import Derived.Test.YteifhgcjmjihgaaJ23
import Derived.Test.YteifhgcjmjihgaaJ32
import Derived.Test.YteifhgcjmjihgaaJ33
import Derived.Deep.DeepCutAuto
import Derived.Deep.RegionHeld3
import Derived.Deep.RegionWith
namespace Go.Proofs.Yteifhgcjmjihgaa
set_option maxRecDepth 100000
open Go.RowKit

theorem info_one : (Try.prog.info? 96).map (fun i => (i.zero, i.size, i.bytes)) = some (some (.agg #[.slice none 0 0, .int .i64 0, .slice none 0 0, .slice none 0 0, .slice none 0 0]), 5, 104) := by kernel_rfl
/-- The row that is made: its elements lie ahead of it. -/
abbrev OwnQ (w : World) (base : Nat) (S : Nat → Prop) (v : Value) (D : Cub) : Prop := OwnR elUnd 96 5 w base (fun k => S k ∧ k < base) v D
theorem und_at {w1 z : World} {v : Value} {S : Nat → Prop} {us : List Value} {y : List Int × PC} (h : elUnd w1 S us y) (hb : Below w1.heap.size w1 z) (hv : ∀ k, v.ownBlock = some k → w1.heap.size ≤ k) : elUnd z (fun k => (S k ∧ k < w1.heap.size) ∧ v.ownBlock ≠ some k) us y :=
  elUnd_ok _ _ _ _ _ _ (fun b h1 hl => ⟨hb.block b hl, ⟨h1, hl⟩, fun e => by have := hv b e; omega⟩) h
theorem lit_at (w : World) (us : List Value) (t : TypeId) : ∀ j u, us[j]? = some u → (w.alloc (.cells us.toArray t)).cell? ((⟨w.heap.size, 0, none⟩ : Addr).add j) = some u := by
  intro j u hj
  rw [add_flat, Nat.zero_add, cell_new]
  simpa using hj
theorem und_one (A0 : Option Addr) (n0 c0 : Nat) (p : Int) (A1 : Option Addr) (n1 c1 : Nat) (A2 : Option Addr) (n2 c2 : Nat) (A3 : Option Addr) (n3 c3 : Nat) : ∀ u ∈ [Value.slice A0 n0 c0, .int .i64 p, .slice A1 n1 c1, .slice A2 n2 c2, .slice A3 n3 c3], u.oneCell' = true := by
  intro u hu
  simp at hu
  rcases hu with rfl | rfl | rfl | rfl | rfl <;> rfl
/-- Where the loop stands. -/
structure SetL (w1 wr : World) (S : Nat → Prop) (v : Value) (C : Cub) (L : List Int) (x : PC) (j : Nat) (put : Bool) (D : Cub) : Prop where
  own : OwnQ wr w1.heap.size S v D
  bel : Below w1.heap.size w1 wr
  now : D ++ restK put (C.drop j) L x = setK C L x
  past : put = true → ∃ a d, a < j ∧ C[a]? = some d ∧ (d.1 = L ∨ lessK L d.1 = true)
  len : D.length + (if put then 0 else 1) ≤ j + 1
theorem drop_at {C : Cub} {j : Nat} {e : List Int × PC} (h : C[j]? = some e) : C.drop j = e :: C.drop (j + 1) := by
  obtain ⟨hl, rfl⟩ := List.getElem?_eq_some_iff.1 h
  exact List.drop_eq_getElem_cons hl
section
variable {w1 wr : World} {S : Nat → Prop} {v : Value} {C : Cub} {L : List Int} {x : PC} {j : Nat} {D : Cub} {e : List Int × PC}
theorem SetL.drewN {put : Bool} (h : SetL w1 wr S v C L x j put D) (k : Nat) : SetL w1 (wr.drewN k) S v C L x j put D := ⟨h.own.drewN elUnd_ok k, below_drewN h.bel k, h.now, h.past, h.len⟩
theorem SetL.alloc {put : Bool} (h : SetL w1 wr S v C L x j put D) (o : Obj) : SetL w1 (wr.alloc o) S v C L x j put D := ⟨h.own.alloc elUnd_ok o, h.bel.alloc h.bel.size o, h.now, h.past, h.len⟩
end
theorem set_end {w w1 y : World} {r W m n c : Nat} {S : Nat → Prop} {A : Option Addr} {C D : Cub} {v : Value} (hS : ∀ k, w.heap.size ≤ k → S k) (hr : ¬ S r) (h : Rq w r W m S A n c C) (hB : Below w.heap.size w w1) (hO : OwnQ y w1.heap.size S v D) (hb : Below w1.heap.size w1 y) :
    ∃ A' n' c', v = .slice A' n' c' ∧ Hid (Rq (y.setCell ⟨r, 2, none⟩ (.slice A' n' c')) r W m S A' n' c' D ∧ w.grownBy (y.setCell ⟨r, 2, none⟩ (.slice A' n' c')) (some r)) ∧ y.cell? ⟨r, 2, none⟩ = some (.slice A n c) ∧ y.frozen? ⟨r, 2, none⟩ = false := by
  obtain ⟨A', c', rfl, hR⟩ := hO.read elUnd_ok
  have hBy := below_then hB hb
  have hq := h.belowS hBy
  have hs := hB.size
  have hR2 : Row elUnd 5 y S A' D.length c' D := hR.mv elUnd_ok (Mv.to y fun b h1 _ => by
    rcases h1 with h1 | h1
    · exact h1.1
    · exact hS b (Nat.le_trans hs h1.1))
  exact ⟨A', D.length, c', rfl, Lib.hid ⟨⟨hq.blk.set_ 2 _, hR2.mv elUnd_ok (Mv.set y r 2 _ hr)⟩, grownBy_trans (grown_of hBy (some r)) (grown_set y r 2 _) (fun _ h => .inl h)⟩, hq.c2, hq.blk.free 2⟩
set_option maxRecDepth 100000 in
set_option maxHeartbeats 4000000 in
theorem refSetK_any {w : World} {r W m n c k kc : Nat} {S : Nat → Prop} {A Ak : Option Addr} {C : Cub} {L : List Int} {p : Int} {A1 A2 A3 : Option Addr} {n1 c1 n2 c2 n3 c3 : Nat} {x : PC} (hS : ∀ k, w.heap.size ≤ k → S k) (hr : ¬ S r) (h : Rq w r W m S A n c C) (hn : n ≤ 100000) (hk : k ≤ 100000) (hC : Ris C) (hL : HasI w w.heap.size Ak k kc L) (hx : elCell w S [.int .i64 p, .slice A1 n1 c1, .slice A2 n2 c2, .slice A3 n3 c3] x) :
    Calls Try.prog 33 #[.pointer (some ⟨r, 0, none⟩), .slice Ak k kc, .agg #[.int .i64 p, .slice A1 n1 c1, .slice A2 n2 c2, .slice A3 n3 c3]] w fun e w' => e = .returned (.tuple #[]) ∧ (∃ A' n' c', Rq w' r W m S A' n' c' (setK C L x)) ∧ w.grownBy w' (some r) := by
  have hb1 := below_a1 w (.cells #[.int .i64 p, .slice A1 n1 c1, .slice A2 n2 c2, .slice A3 n3 c3] 42)
  have hX := Block.new w 42 #[.int .i64 p, .slice A1 n1 c1, .slice A2 n2 c2, .slice A3 n3 c3]
  have H0 := Lib.hid (And.intro hS (And.intro hr (And.intro h (And.intro hC hx))))
  have hK := hL.belowS hb1
  have H1 := Lib.hid (And.intro hb1 hX)
  have hrl : r < w.heap.size := h.blk.lt
  have hnm := h.row.lenMax
  have hcap := h.row.cap
  have hcm := h.row.capMax
  clear hS hr h hC hL hx hb1 hX
  go_enter Try.func33, Try.ntmps33
  go_upto_region 2 with fail
  generalize w.alloc (.cells #[.int .i64 p, .slice A1 n1 c1, .slice A2 n2 c2, .slice A3 n3 c3] 42) = W1 at H1 hK ⊢
  have hz1 : w.heap.size < W1.heap.size := H1.out.2.lt
  go_wp2_with (at_builtin; refine wpList_appIs rfl _ _ rfl w.heap.size _ [] rfl (OwnI.nil_ W1 _) _ Ak k kc _ rfl hK (by simp; omega) (Nat.le_of_lt hz1) ?_; intro vo w1 hO hG)
  have hBw := hG.below_ (Nat.le_refl _) (fun k hk => by cases hk)
  have hB1 := below_then H1.out.1 hBw
  rw [List.nil_append] at hO
  obtain ⟨Ao, co, eo, hOr⟩ := (OwnI.ownR (S := fun _ => False) hO).read elInt_ok
  obtain ⟨no, hLl⟩ : ∃ no, Hid (L.length = no) := ⟨_, Lib.hid rfl⟩
  rw [hLl.out] at eo hOr
  subst eo
  have hOS : Row elInt 1 w1 S Ao no co L := hOr.mv elInt_ok (Mv.to w1 fun b hb _ => by
    rcases hb with hb | hb
    · exact hb.elim
    · exact H0.out.1 b hb.1)
  have hnew : elUnd w1 S [.slice Ao no co, .int .i64 p, .slice A1 n1 c1, .slice A2 n2 c2, .slice A3 n3 c3] (L, x) := ⟨⟨Ao, no, co, rfl, hOS⟩, elCell_ok _ _ _ _ _ _ (Mv.belowS hB1 S) H0.out.2.2.2.2⟩
  have hX1 := H1.out.2.below hBw H1.out.2.lt
  have hR1 := H0.out.2.2.1.row.mv elUnd_ok (Mv.belowS hB1 S)
  have hQ1 := H0.out.2.2.1.belowS hB1
  have hOI := hOr.hasI
  have HN := Lib.hid (And.intro hnew (And.intro hX1 (And.intro hR1 (And.intro hQ1 (And.intro hOI hB1)))))
  have hz2 : W1.heap.size ≤ w1.heap.size := hBw.size
  clear hK hBw hB1 hO hOr hOS hnew hX1 hG hR1 hQ1 hOI
  go_loopw [7, 8, 9] (fun v pt i wr => ∃ (j : Nat) (put : Bool) (D : Cub), j ≤ n ∧ i = .int .i64 j ∧ pt = .bool put ∧ SetL w1 wr S v C L x j put D) (fun _ _ i _ => n - (intOf i).toNat)
  case atStart => exact ⟨0, false, [], Nat.zero_le _, rfl, rfl, ⟨OwnR.nil_ _ _ _, Below.refl _ _, by simp [restK], fun h => (by cases h), by simp⟩⟩
  case round =>
    obtain ⟨j, put, D, hj, rfl, rfl, hT⟩ := hrel
    have HT := Lib.hid hT
    have hQ := HN.out.2.2.2.1.belowS hT.bel
    have cq := hQ.c2
    clear hT hQ
    by_cases hlt : j < n
    · obtain ⟨b, o, A0, n0, c0, p0, B1, m1, d1, B2, m2, d2, B3, m3, d3, K, Su, M, X, rfl, hb, hbl, g0, g1, g2, g3, g4, hK0, hSu, hM, hX0, hCj⟩ := HN.out.2.2.1.atU hlt
      have i0 : (0 : Int) ≤ (j : Int) := by omega
      have i1 : (j : Int) < (n : Int) := by omega
      have HO := Lib.hid (elUnd_mk hK0 hSu hM hX0 (n := p0))
      have KB : Hid (∀ y : World, Below w1.heap.size w1 y → y.cell? ⟨r, 2, none⟩ = some (.slice (some ⟨b, o, none⟩) n c) ∧ y.cell? ⟨b, o + j * 5, none⟩ = some (.slice A0 n0 c0) ∧ y.cell? ⟨b, o + j * 5 + 1, none⟩ = some (.int .i64 p0) ∧ y.cell? ⟨b, o + j * 5 + 2, none⟩ = some (.slice B1 m1 d1) ∧ y.cell? ⟨b, o + j * 5 + 3, none⟩ = some (.slice B2 m2 d2) ∧ y.cell? ⟨b, o + j * 5 + 4, none⟩ = some (.slice B3 m3 d3) ∧ y.cell? ⟨w.heap.size, 0, none⟩ = some (.int .i64 p) ∧ y.cell? ⟨w.heap.size, 1, none⟩ = some (.slice A1 n1 c1) ∧ y.cell? ⟨w.heap.size, 2, none⟩ = some (.slice A2 n2 c2) ∧ y.cell? ⟨w.heap.size, 3, none⟩ = some (.slice A3 n3 c3)) := Lib.hid fun y hy => by
        have hXr := HN.out.2.1.below hy HN.out.2.1.lt
        exact ⟨(HN.out.2.2.2.1.belowS hy).c2, (hy.cell (p := ⟨b, o + j * 5, none⟩) hbl).trans g0, (hy.cell (p := ⟨b, o + j * 5 + 1, none⟩) hbl).trans g1, (hy.cell (p := ⟨b, o + j * 5 + 2, none⟩) hbl).trans g2, (hy.cell (p := ⟨b, o + j * 5 + 3, none⟩) hbl).trans g3, (hy.cell (p := ⟨b, o + j * 5 + 4, none⟩) hbl).trans g4, hXr.cell 0, hXr.cell 1, hXr.cell 2, hXr.cell 3⟩
      clear g0 g1 g2 g3 g4 cq
      obtain ⟨cq, g0, g1, g2, g3, g4, x0, x1, x2, x3⟩ := KB.out wr HT.out.bel
      have hki := (hK0.mv elInt_ok (Mv.belowS HT.out.bel S)).hasI
      have hoi := HN.out.2.2.2.2.1.below HT.out.bel (Nat.le_refl _)
      have hsm := sameI_any (w := wr) hki hoi
      have hls := Lib.hid fun q => refLessK_any (w := wr.drewN q) (hoi.drewN q) (hki.drewN q)
      have TZ : Hid (∀ y : World, (∃ q, y = wr.drewN q) → OwnQ y w1.heap.size S u7 D ∧ Below w1.heap.size w1 y ∧ D.length ≤ 1000000) := Lib.hid (by
        rintro y ⟨q, rfl⟩
        exact ⟨HT.out.own.drewN elUnd_ok q, below_drewN HT.out.bel q, by have := HT.out.len; split at this <;> omega⟩)
      have hjl := hCj.out
      clear hb hK0 hSu hM hX0 hki hoi
      obtain ⟨sb, hsb⟩ : ∃ sb, Hid (decide (K = L) = sb) := ⟨_, Lib.hid rfl⟩
      obtain ⟨lb, hlb⟩ : ∃ lb, Hid (lessK L K = lb) := ⟨_, Lib.hid rfl⟩
      rw [hsb.out] at hsm
      rw [hlb.out] at hls
      have HSM := Lib.hid hsm
      have HCj := Lib.hid hjl
      clear hsm hjl hCj
      go_wp2_with fail
      refine HSM.out.mono ?_
      rintro y z1 ⟨rfl, q1, hz⟩
      have hls1 := hls.out q1
      rw [← hz] at hls1
      have HLS := Lib.hid hls1
      have HZ1 := Lib.hid (show ∃ q, z1 = wr.drewN q from ⟨q1, hz⟩)
      clear hz cq g0 g1 g2 g3 g4 x0 x1 x2 x3 hls1 HSM hls
      obtain ⟨cq, g0, g1, g2, g3, g4, x0, x1, x2, x3⟩ := KB.out z1 (TZ.out z1 HZ1.out).2.1
      go_wp2_with fail
      refine HLS.out.mono ?_
      rintro y z2 ⟨rfl, q2, hz⟩
      have HZ2 : Hid (∃ q, z2 = wr.drewN q) := Lib.hid (by
        obtain ⟨q, hq⟩ := HZ1.out
        exact ⟨q + q2, by rw [hz, hq, World.drewN_drewN]⟩)
      have T0 := Lib.hid (TZ.out z2 HZ2.out)
      clear hz cq g0 g1 g2 g3 g4 x0 x1 x2 x3 HLS HZ1
      obtain ⟨cq, g0, g1, g2, g3, g4, x0, x1, x2, x3⟩ := KB.out z2 T0.out.2.1
      clear TZ HZ2
      rcases put with _ | _
      · rcases sb with _ | _
        · rcases lb with _ | _
          · go_wp2_with (at_builtin; refine wpList_appX elUnd_ok rfl _ _ rfl info_one Try.underlying45 rfl (by decide) w1.heap.size _ _ _ rfl (T0.out.1.alloc elUnd_ok (.cells #[.slice A0 n0 c0, .int .i64 p0, .slice B1 m1 d1, .slice B2 m2 d2, .slice B3 m3 d3] 96)) _ rfl [.slice A0 n0 c0, .int .i64 p0, .slice B1 m1 d1, .slice B2 m2 d2, .slice B3 m3 d3] rfl (K, p0, Su, M, X) (lit_at _ [.slice A0 n0 c0, .int .i64 p0, .slice B1 m1 d1, .slice B2 m2 d2, .slice B3 m3 d3] _) (und_one _ _ _ _ _ _ _ _ _ _ _ _ _) (und_at HO.out (T0.out.2.1.alloc T0.out.2.1.size (.cells #[.slice A0 n0 c0, .int .i64 p0, .slice B1 m1 d1, .slice B2 m2 d2, .slice B3 m3 d3] 96)) (fun k hk => (T0.out.1.lt k hk).1)) T0.out.2.2 (T0.out.2.1.alloc T0.out.2.1.size (.cells #[.slice A0 n0 c0, .int .i64 p0, .slice B1 m1 d1, .slice B2 m2 d2, .slice B3 m3 d3] 96)).size ?_; intro v3 y3 O3 G3; have T3 : Hid (OwnQ y3 w1.heap.size S v3 (D ++ [(K, p0, Su, M, X)]) ∧ Below w1.heap.size w1 y3 ∧ (D ++ [(K, p0, Su, M, X)]).length ≤ 1000000) := Lib.hid ⟨O3, (T0.out.2.1.alloc T0.out.2.1.size (.cells #[.slice A0 n0 c0, .int .i64 p0, .slice B1 m1 d1, .slice B2 m2 d2, .slice B3 m3 d3] 96)).trans (G3.below_ (T0.out.2.1.alloc T0.out.2.1.size (.cells #[.slice A0 n0 c0, .int .i64 p0, .slice B1 m1 d1, .slice B2 m2 d2, .slice B3 m3 d3] 96)).size (fun k hk => (T0.out.1.lt k hk).1)), by have := HT.out.len; simp at this ⊢; omega⟩; clear O3 G3)
            have hF := Lib.hid (show SetL w1 y3 S v3 C L x (j + 1) false (D ++ [(K, p0, Su, M, X)]) from ⟨T3.out.1, T3.out.2.1, by have h := HT.out.now; rw [drop_at HCj.out, restK_ahead (of_decide_eq_false hsb.out) hlb.out] at h; simpa using h, (fun h => by cases h), by have := HT.out.len; simp at this ⊢; omega⟩)
            clear T3
            go_wp2_with fail
            go_roundw
            case rel => exact ⟨j + 1, false, D ++ [(K, p0, Su, M, X)], by omega, by go_num, rfl, hF.out⟩
            case measure => simp [intOf]; omega
          · go_wp2_with (first | (at_builtin; refine wpList_appX elUnd_ok rfl _ _ rfl info_one Try.underlying45 rfl (by decide) w1.heap.size _ _ _ rfl (T0.out.1.alloc elUnd_ok (.cells #[.slice Ao no co, .int .i64 p, .slice A1 n1 c1, .slice A2 n2 c2, .slice A3 n3 c3] 96)) _ rfl [.slice Ao no co, .int .i64 p, .slice A1 n1 c1, .slice A2 n2 c2, .slice A3 n3 c3] rfl (L, x) (lit_at _ [.slice Ao no co, .int .i64 p, .slice A1 n1 c1, .slice A2 n2 c2, .slice A3 n3 c3] _) (und_one _ _ _ _ _ _ _ _ _ _ _ _ _) (und_at HN.out.1 (T0.out.2.1.alloc T0.out.2.1.size (.cells #[.slice Ao no co, .int .i64 p, .slice A1 n1 c1, .slice A2 n2 c2, .slice A3 n3 c3] 96)) (fun k hk => (T0.out.1.lt k hk).1)) T0.out.2.2 (T0.out.2.1.alloc T0.out.2.1.size (.cells #[.slice Ao no co, .int .i64 p, .slice A1 n1 c1, .slice A2 n2 c2, .slice A3 n3 c3] 96)).size ?_; intro v3 y3 O3 G3; have T3 : Hid (OwnQ y3 w1.heap.size S v3 (D ++ [(L, x)]) ∧ Below w1.heap.size w1 y3 ∧ (D ++ [(L, x)]).length ≤ 1000000) := Lib.hid ⟨O3, (T0.out.2.1.alloc T0.out.2.1.size (.cells #[.slice Ao no co, .int .i64 p, .slice A1 n1 c1, .slice A2 n2 c2, .slice A3 n3 c3] 96)).trans (G3.below_ (T0.out.2.1.alloc T0.out.2.1.size (.cells #[.slice Ao no co, .int .i64 p, .slice A1 n1 c1, .slice A2 n2 c2, .slice A3 n3 c3] 96)).size (fun k hk => (T0.out.1.lt k hk).1)), by have := HT.out.len; simp at this ⊢; omega⟩; clear O3 G3; clear cq g0 g1 g2 g3 g4 x0 x1 x2 x3; obtain ⟨cq, g0, g1, g2, g3, g4, x0, x1, x2, x3⟩ := KB.out y3 T3.out.2.1) | (at_builtin; refine wpList_appX elUnd_ok rfl _ _ rfl info_one Try.underlying45 rfl (by decide) w1.heap.size _ _ _ rfl (T3.out.1.alloc elUnd_ok (.cells #[.slice A0 n0 c0, .int .i64 p0, .slice B1 m1 d1, .slice B2 m2 d2, .slice B3 m3 d3] 96)) _ rfl [.slice A0 n0 c0, .int .i64 p0, .slice B1 m1 d1, .slice B2 m2 d2, .slice B3 m3 d3] rfl (K, p0, Su, M, X) (lit_at _ [.slice A0 n0 c0, .int .i64 p0, .slice B1 m1 d1, .slice B2 m2 d2, .slice B3 m3 d3] _) (und_one _ _ _ _ _ _ _ _ _ _ _ _ _) (und_at HO.out (T3.out.2.1.alloc T3.out.2.1.size (.cells #[.slice A0 n0 c0, .int .i64 p0, .slice B1 m1 d1, .slice B2 m2 d2, .slice B3 m3 d3] 96)) (fun k hk => (T3.out.1.lt k hk).1)) T3.out.2.2 (T3.out.2.1.alloc T3.out.2.1.size (.cells #[.slice A0 n0 c0, .int .i64 p0, .slice B1 m1 d1, .slice B2 m2 d2, .slice B3 m3 d3] 96)).size ?_; intro v4 y4 O4 G4; have T4 : Hid (OwnQ y4 w1.heap.size S v4 (D ++ [(L, x)] ++ [(K, p0, Su, M, X)]) ∧ Below w1.heap.size w1 y4 ∧ (D ++ [(L, x)] ++ [(K, p0, Su, M, X)]).length ≤ 1000000) := Lib.hid ⟨O4, (T3.out.2.1.alloc T3.out.2.1.size (.cells #[.slice A0 n0 c0, .int .i64 p0, .slice B1 m1 d1, .slice B2 m2 d2, .slice B3 m3 d3] 96)).trans (G4.below_ (T3.out.2.1.alloc T3.out.2.1.size (.cells #[.slice A0 n0 c0, .int .i64 p0, .slice B1 m1 d1, .slice B2 m2 d2, .slice B3 m3 d3] 96)).size (fun k hk => (T3.out.1.lt k hk).1)), by have := HT.out.len; simp at this ⊢; omega⟩; clear O4 G4))
            have hF := Lib.hid (show SetL w1 y4 S v4 C L x (j + 1) true (D ++ [(L, x)] ++ [(K, p0, Su, M, X)]) from ⟨T4.out.1, T4.out.2.1, by have h := HT.out.now; rw [drop_at HCj.out, restK_put (of_decide_eq_false hsb.out) hlb.out] at h; simpa using h, fun _ => ⟨j, _, by omega, HCj.out, .inr hlb.out⟩, by have := HT.out.len; simp at this ⊢; omega⟩)
            clear T4
            go_wp2_with fail
            go_roundw
            case rel => exact ⟨j + 1, true, D ++ [(L, x)] ++ [(K, p0, Su, M, X)], by omega, by go_num, rfl, hF.out⟩
            case measure => simp [intOf]; omega
        · go_wp2_with (at_builtin; refine wpList_appX elUnd_ok rfl _ _ rfl info_one Try.underlying45 rfl (by decide) w1.heap.size _ _ _ rfl (T0.out.1.alloc elUnd_ok (.cells #[.slice Ao no co, .int .i64 p, .slice A1 n1 c1, .slice A2 n2 c2, .slice A3 n3 c3] 96)) _ rfl [.slice Ao no co, .int .i64 p, .slice A1 n1 c1, .slice A2 n2 c2, .slice A3 n3 c3] rfl (L, x) (lit_at _ [.slice Ao no co, .int .i64 p, .slice A1 n1 c1, .slice A2 n2 c2, .slice A3 n3 c3] _) (und_one _ _ _ _ _ _ _ _ _ _ _ _ _) (und_at HN.out.1 (T0.out.2.1.alloc T0.out.2.1.size (.cells #[.slice Ao no co, .int .i64 p, .slice A1 n1 c1, .slice A2 n2 c2, .slice A3 n3 c3] 96)) (fun k hk => (T0.out.1.lt k hk).1)) T0.out.2.2 (T0.out.2.1.alloc T0.out.2.1.size (.cells #[.slice Ao no co, .int .i64 p, .slice A1 n1 c1, .slice A2 n2 c2, .slice A3 n3 c3] 96)).size ?_; intro v3 y3 O3 G3; have T3 : Hid (OwnQ y3 w1.heap.size S v3 (D ++ [(L, x)]) ∧ Below w1.heap.size w1 y3 ∧ (D ++ [(L, x)]).length ≤ 1000000) := Lib.hid ⟨O3, (T0.out.2.1.alloc T0.out.2.1.size (.cells #[.slice Ao no co, .int .i64 p, .slice A1 n1 c1, .slice A2 n2 c2, .slice A3 n3 c3] 96)).trans (G3.below_ (T0.out.2.1.alloc T0.out.2.1.size (.cells #[.slice Ao no co, .int .i64 p, .slice A1 n1 c1, .slice A2 n2 c2, .slice A3 n3 c3] 96)).size (fun k hk => (T0.out.1.lt k hk).1)), by have := HT.out.len; simp at this ⊢; omega⟩; clear O3 G3)
          have hF := Lib.hid (show SetL w1 y3 S v3 C L x (j + 1) true (D ++ [(L, x)]) from ⟨T3.out.1, T3.out.2.1, by have h := HT.out.now; rw [drop_at HCj.out, restK_same (of_decide_eq_true hsb.out)] at h; simpa using h, fun _ => ⟨j, _, by omega, HCj.out, .inl (of_decide_eq_true hsb.out)⟩, by have := HT.out.len; simp at this ⊢; omega⟩)
          clear T3
          go_wp2_with fail
          go_roundw
          case rel => exact ⟨j + 1, true, D ++ [(L, x)], by omega, by go_num, rfl, hF.out⟩
          case measure => simp [intOf]; omega
      · obtain rfl : sb = false := by
          rw [← hsb.out]
          obtain ⟨a, d, h1, h2, h3⟩ := HT.out.past rfl
          exact decide_eq_false (ris_past H0.out.2.2.2.1 h2 HCj.out h1 h3)
        go_wp2_with (at_builtin; refine wpList_appX elUnd_ok rfl _ _ rfl info_one Try.underlying45 rfl (by decide) w1.heap.size _ _ _ rfl (T0.out.1.alloc elUnd_ok (.cells #[.slice A0 n0 c0, .int .i64 p0, .slice B1 m1 d1, .slice B2 m2 d2, .slice B3 m3 d3] 96)) _ rfl [.slice A0 n0 c0, .int .i64 p0, .slice B1 m1 d1, .slice B2 m2 d2, .slice B3 m3 d3] rfl (K, p0, Su, M, X) (lit_at _ [.slice A0 n0 c0, .int .i64 p0, .slice B1 m1 d1, .slice B2 m2 d2, .slice B3 m3 d3] _) (und_one _ _ _ _ _ _ _ _ _ _ _ _ _) (und_at HO.out (T0.out.2.1.alloc T0.out.2.1.size (.cells #[.slice A0 n0 c0, .int .i64 p0, .slice B1 m1 d1, .slice B2 m2 d2, .slice B3 m3 d3] 96)) (fun k hk => (T0.out.1.lt k hk).1)) T0.out.2.2 (T0.out.2.1.alloc T0.out.2.1.size (.cells #[.slice A0 n0 c0, .int .i64 p0, .slice B1 m1 d1, .slice B2 m2 d2, .slice B3 m3 d3] 96)).size ?_; intro v3 y3 O3 G3; have T3 : Hid (OwnQ y3 w1.heap.size S v3 (D ++ [(K, p0, Su, M, X)]) ∧ Below w1.heap.size w1 y3 ∧ (D ++ [(K, p0, Su, M, X)]).length ≤ 1000000) := Lib.hid ⟨O3, (T0.out.2.1.alloc T0.out.2.1.size (.cells #[.slice A0 n0 c0, .int .i64 p0, .slice B1 m1 d1, .slice B2 m2 d2, .slice B3 m3 d3] 96)).trans (G3.below_ (T0.out.2.1.alloc T0.out.2.1.size (.cells #[.slice A0 n0 c0, .int .i64 p0, .slice B1 m1 d1, .slice B2 m2 d2, .slice B3 m3 d3] 96)).size (fun k hk => (T0.out.1.lt k hk).1)), by have := HT.out.len; simp at this ⊢; omega⟩; clear O3 G3)
        have hF := Lib.hid (show SetL w1 y3 S v3 C L x (j + 1) true (D ++ [(K, p0, Su, M, X)]) from ⟨T3.out.1, T3.out.2.1, by have h := HT.out.now; rw [drop_at HCj.out, restK_more] at h; simpa using h, (fun _ => by obtain ⟨a, d, h1, h2, h3⟩ := HT.out.past rfl; exact ⟨a, d, by omega, h2, h3⟩), by have := HT.out.len; simp at this ⊢; omega⟩)
        clear T3
        go_wp2_with fail
        go_roundw
        case rel => exact ⟨j + 1, true, D ++ [(K, p0, Su, M, X)], by omega, by go_num, rfl, hF.out⟩
        case measure => simp [intOf]; omega
    · have hdr : Hid (C.drop j = []) := Lib.hid (List.drop_eq_nil_of_le (by have := H0.out.2.2.1.row.len; omega))
      have HL := HT.out.now
      rw [hdr.out, restK_end] at HL
      rcases put with _ | _
      · have HD : Hid (D ++ [(L, x)] = setK C L x) := Lib.hid (by simpa using HL)
        have T0 := Lib.hid (And.intro HT.out.own (And.intro HT.out.bel (show D.length ≤ 1000000 by have := HT.out.len; simp at this; omega)))
        have hXr := HN.out.2.1.below HT.out.bel HN.out.2.1.lt
        have x0 : wr.cell? ⟨w.heap.size, 0, none⟩ = some (.int .i64 p) := hXr.cell 0
        have x1 : wr.cell? ⟨w.heap.size, 1, none⟩ = some (.slice A1 n1 c1) := hXr.cell 1
        have x2 : wr.cell? ⟨w.heap.size, 2, none⟩ = some (.slice A2 n2 c2) := hXr.cell 2
        have x3 : wr.cell? ⟨w.heap.size, 3, none⟩ = some (.slice A3 n3 c3) := hXr.cell 3
        clear HL hXr
        go_wp2_with (at_builtin; refine wpList_appX elUnd_ok rfl _ _ rfl info_one Try.underlying45 rfl (by decide) w1.heap.size _ _ _ rfl (T0.out.1.alloc elUnd_ok (.cells #[.slice Ao no co, .int .i64 p, .slice A1 n1 c1, .slice A2 n2 c2, .slice A3 n3 c3] 96)) _ rfl [.slice Ao no co, .int .i64 p, .slice A1 n1 c1, .slice A2 n2 c2, .slice A3 n3 c3] rfl (L, x) (lit_at _ [.slice Ao no co, .int .i64 p, .slice A1 n1 c1, .slice A2 n2 c2, .slice A3 n3 c3] _) (und_one _ _ _ _ _ _ _ _ _ _ _ _ _) (und_at HN.out.1 (T0.out.2.1.alloc T0.out.2.1.size (.cells #[.slice Ao no co, .int .i64 p, .slice A1 n1 c1, .slice A2 n2 c2, .slice A3 n3 c3] 96)) (fun k hk => (T0.out.1.lt k hk).1)) T0.out.2.2 (T0.out.2.1.alloc T0.out.2.1.size (.cells #[.slice Ao no co, .int .i64 p, .slice A1 n1 c1, .slice A2 n2 c2, .slice A3 n3 c3] 96)).size ?_; intro v3 y3 O3 G3; obtain ⟨A', n', c', rfl, HF, ce, fe⟩ := set_end H0.out.1 H0.out.2.1 H0.out.2.2.1 HN.out.2.2.2.2.2 O3 ((T0.out.2.1.alloc T0.out.2.1.size (.cells #[.slice Ao no co, .int .i64 p, .slice A1 n1 c1, .slice A2 n2 c2, .slice A3 n3 c3] 96)).trans (G3.below_ (T0.out.2.1.alloc T0.out.2.1.size (.cells #[.slice Ao no co, .int .i64 p, .slice A1 n1 c1, .slice A2 n2 c2, .slice A3 n3 c3] 96)).size (fun k hk => (T0.out.1.lt k hk).1))); clear O3 G3)
        refine bodyPost_end (results_none rfl _ _ _) rfl ?_
        have h2 := HF.out
        rw [HD.out] at h2
        exact ⟨rfl, ⟨A', n', c', h2.1⟩, h2.2⟩
      · have HD : Hid (D = setK C L x) := Lib.hid (by simpa using HL)
        obtain ⟨A', n', c', rfl, HF, ce, fe⟩ := set_end H0.out.1 H0.out.2.1 H0.out.2.2.1 HN.out.2.2.2.2.2 HT.out.own HT.out.bel
        clear HL
        go_wp2_with fail
        refine bodyPost_end (results_none rfl _ _ _) rfl ?_
        have h2 := HF.out
        rw [HD.out] at h2
        exact ⟨rfl, ⟨A', n', c', h2.1⟩, h2.2⟩
end Go.Proofs.Yteifhgcjmjihgaa
namespace Go.Proofs.Yteifhgcjmjihgaa
set_option maxRecDepth 100000
open Go.RowKit

theorem elCell_hasC {w : World} {S : Nat → Prop} {q q' : Int} {A1 A2 A3 : Option Addr} {n1 c1 n2 c2 n3 c3 : Nat} {Su M X : List Int} (h : elCell w S [.int .i64 q, .slice A1 n1 c1, .slice A2 n2 c2, .slice A3 n3 c3] (q', Su, M, X)) : HasC w w.heap.size A1 n1 c1 A2 n2 c2 A3 n3 c3 Su M X := by
  obtain ⟨_, ⟨B1, m1, d1, e1, h1⟩, ⟨B2, m2, d2, e2, h2⟩, B3, m3, d3, e3, h3⟩ := h
  simp at e1 e2 e3
  obtain ⟨rfl, rfl, rfl⟩ := e1
  obtain ⟨rfl, rfl, rfl⟩ := e2
  obtain ⟨rfl, rfl, rfl⟩ := e3
  exact ⟨h1.hasI, h2.hasI, h3.hasI⟩
set_option maxRecDepth 100000 in
set_option maxHeartbeats 4000000 in
theorem refAddK_any {w : World} {r W m n c k kc : Nat} {S : Nat → Prop} {A Ak : Option Addr} {C : Cub} {L : List Int} {p : Int} {A1 A2 A3 : Option Addr} {n1 c1 n2 c2 n3 c3 : Nat} {Su M X : List Int} (hS : ∀ k, w.heap.size ≤ k → S k) (hr : ¬ S r) (h : Rq w r W m S A n c C) (hn : n ≤ 100000) (hW : W ≤ 3) (hC : Cuboid W m C) (hL : HasI w w.heap.size Ak k kc L) (hx : elCell w S [.int .i64 p, .slice A1 n1 c1, .slice A2 n2 c2, .slice A3 n3 c3] (p, Su, M, X)) :
    Calls Try.prog 15 #[.pointer (some ⟨r, 0, none⟩), .slice Ak k kc, .agg #[.int .i64 p, .slice A1 n1 c1, .slice A2 n2 c2, .slice A3 n3 c3]] w fun e w' => e = .returned (.int .i64 (addK W m C L (p, Su, M, X)).2) ∧ (∃ A' n' c', Rq w' r W m S A' n' c' (addK W m C L (p, Su, M, X)).1) ∧ w.grownBy w' (some r) := by
  have hb1 := below_a1 w (.cells #[.int .i64 p, .slice A1 n1 c1, .slice A2 n2 c2, .slice A3 n3 c3] 42)
  have hX := Block.new w 42 #[.int .i64 p, .slice A1 n1 c1, .slice A2 n2 c2, .slice A3 n3 c3]
  have hrl : r < w.heap.size := h.blk.lt
  have hxc := elCell_hasC hx
  have HL := Lib.hid (And.intro hL.len (And.intro hxc.s.len hxc.s.lenMax))
  have hz1 : (w.alloc (.cells #[.int .i64 p, .slice A1 n1 c1, .slice A2 n2 c2, .slice A3 n3 c3] 42)).heap.size = w.heap.size + 1 := World.size_alloc _ _
  have H0 := Lib.hid (And.intro hS (And.intro hr (And.intro h (And.intro hC (And.intro hL hx)))))
  have HB1 := Lib.hid (And.intro hb1 hX)
  clear hS hr h hC hL hx hxc hb1 hX
  go_enter Try.func15, Try.ntmps15
  go_wp2_with fail
  generalize w.alloc (.cells #[.int .i64 p, .slice A1 n1 c1, .slice A2 n2 c2, .slice A3 n3 c3] 42) = W1 at HB1 hz1 ⊢
  have HZ1 := Lib.hid hz1
  have hw1 : w.heap.size < W1.heap.size := by omega
  have KH : Hid (∀ y : World, Below W1.heap.size W1 y → Rq y r W m S A n c C ∧ HasI y y.heap.size Ak k kc L ∧ HasC y y.heap.size A1 n1 c1 A2 n2 c2 A3 n3 c3 Su M X ∧ elCell y S [.int .i64 p, .slice A1 n1 c1, .slice A2 n2 c2, .slice A3 n3 c3] (p, Su, M, X) ∧ Block y w.heap.size 42 #[.int .i64 p, .slice A1 n1 c1, .slice A2 n2 c2, .slice A3 n3 c3] ∧ Below w.heap.size w y) := Lib.hid fun y hy => by
    have hB := below_then HB1.out.1 hy
    have hx := elCell_ok _ _ _ _ _ _ (Mv.belowS hB S) H0.out.2.2.2.2.2
    exact ⟨H0.out.2.2.1.belowS hB, H0.out.2.2.2.2.1.belowS hB, elCell_hasC hx, hx, HB1.out.2.below hy HB1.out.2.lt, hB⟩
  have KC : Hid (∀ y : World, Below W1.heap.size W1 y → y.cell? ⟨r, 1, none⟩ = some (.int .i64 (m : Int)) ∧ y.cell? ⟨w.heap.size, 0, none⟩ = some (.int .i64 p) ∧ y.cell? ⟨w.heap.size, 1, none⟩ = some (.slice A1 n1 c1) ∧ y.cell? ⟨w.heap.size, 2, none⟩ = some (.slice A2 n2 c2) ∧ y.cell? ⟨w.heap.size, 3, none⟩ = some (.slice A3 n3 c3)) := Lib.hid fun y hy => by
    have h := KH.out y hy
    exact ⟨h.1.c1, h.2.2.2.2.1.cell 0, h.2.2.2.2.1.cell 1, h.2.2.2.2.1.cell 2, h.2.2.2.2.1.cell 3⟩
  obtain ⟨a, ha⟩ : ∃ a, Hid (decide (isKey W L) = a) := ⟨_, Lib.hid rfl⟩
  obtain ⟨b, hb⟩ : ∃ b : Bool, Hid (b = true ↔ cMay (p, Su, M, X)) := ⟨decide (cMay (p, Su, M, X)), Lib.hid (by simp)⟩
  have B0 := Below.refl W1.heap.size W1
  have hIs := refIsK_any (KH.out W1 B0).1.c0 (KH.out W1 B0).2.1
  rw [ha.out] at hIs
  refine hIs.mono ?_
  rintro e w2 ⟨rfl, q1, hq1⟩
  have B2 : Below W1.heap.size W1 w2 := by rw [hq1]; exact below_drewN B0 q1
  have hMay := refMay_any5 (n := p) (KH.out w2 B2).2.2.1 (r := b) hb.out
  have HB2 := Lib.hid B2
  obtain ⟨m1, x0, x1, x2, x3⟩ := KC.out w2 B2
  clear hIs hq1 B2 B0 hz1
  go_wp2_with fail
  refine hMay.mono ?_
  rintro e w3 ⟨rfl, hb3⟩
  have HB3 : Hid (Below W1.heap.size W1 w3) := Lib.hid (HB2.out.trans (hb3.mono HB2.out.size))
  clear hMay hb3 HB2 m1 x0 x1 x2 x3
  obtain ⟨m1, x0, x1, x2, x3⟩ := KC.out w3 HB3.out
  have KQ : Hid (∀ q, Below W1.heap.size W1 (w3.drewN q)) := Lib.hid fun q => below_drewN HB3.out q
  by_cases hbad : a = false ∨ b = false ∨ p = 0 ∨ n1 ≠ m
  · have HV : Hid (addK W m C L (p, Su, M, X) = (C, 1)) := Lib.hid (addK_no fun hx => by
      rcases hbad with e | e | e | e
      · have := ha.out
        rw [e] at this
        exact of_decide_eq_false this hx.1
      · have := hb.out.2 hx.2.1
        rw [e] at this
        cases this
      · exact hx.2.2.1 e
      · exact e (by have h1 := hx.2.2.2; have h2 := HL.out.2.1; simp at h1; omega))
    have HF : Hid (∀ q, (∃ A' n' c', Rq (w3.drewN q) r W m S A' n' c' C) ∧ w.grownBy (w3.drewN q) (some r)) := Lib.hid fun q => ⟨⟨A, n, c, (KH.out _ (KQ.out q)).1⟩, grown_of (KH.out _ (KQ.out q)).2.2.2.2.2 _⟩
    clear KH KC KQ H0 HB1
    cases a with
    | false =>
      clear hbad
      go_wp2_with fail
      go_quiet (fail)
      go_wp2_with fail
      go_ret
      rw [HV.out]
      exact ⟨rfl, (HF.out _).1, (HF.out _).2⟩
    | true =>
      cases b with
      | false =>
        clear hbad
        go_wp2_with fail
        go_quiet (fail)
        go_wp2_with fail
        go_ret
        rw [HV.out]
        exact ⟨rfl, (HF.out _).1, (HF.out _).2⟩
      | true =>
        by_cases hp : p = 0
        · have hpe : ((p : Int) == 0) = true := by simp [hp]
          clear hbad hp
          go_wp2_with fail
          go_quiet (fail)
          go_wp2_with fail
          go_ret
          rw [HV.out]
          exact ⟨rfl, (HF.out _).1, (HF.out _).2⟩
        · have hpe : ((p : Int) == 0) = false := by simpa using hp
          have hne : ((n1 : Int) != (m : Int)) = true := by
            rcases hbad with e | e | e | e
            · cases e
            · cases e
            · exact absurd e hp
            · simp; omega
          clear hbad hp
          go_wp2_with fail
          go_quiet (fail)
          go_wp2_with fail
          go_ret
          rw [HV.out]
          exact ⟨rfl, (HF.out _).1, (HF.out _).2⟩
  · obtain rfl : a = true := by
      cases a
      · exact absurd (.inl rfl) hbad
      · rfl
    obtain rfl : b = true := by
      cases b
      · exact absurd (.inr (.inl rfl)) hbad
      · rfl
    have hp : ¬ p = 0 := fun e => hbad (.inr (.inr (.inl e)))
    have hnm : n1 = m := Classical.byContradiction fun e => hbad (.inr (.inr (.inr e)))
    have HK : Hid (isKey W L ∧ isCell m (p, Su, M, X)) := Lib.hid ⟨of_decide_eq_true ha.out, hb.out.1 rfl, hp, by have h2 := HL.out.2.1; simp; omega⟩
    have hpe : ((p : Int) == 0) = false := by simpa using hp
    have hne : ((n1 : Int) != (m : Int)) = false := by simp; omega
    have hk : k ≤ 100000 := by have h1 := HK.out.1.1; have h2 := HL.out.1; omega
    have HP := Lib.hid hp
    clear hbad hp hnm
    go_wp2_with fail
    go_quiet (fail)
    clear m1 x0 x1 x2 x3 hpe hne
    have HB4 := Lib.hid (KQ.out nq)
    generalize w3.drewN nq = w4 at HB4 ⊢
    go_wp2_with fail
    refine (refGetK_any (KH.out w4 HB4.out).1 (KH.out w4 HB4.out).2.1).mono ?_
    rintro e w5 ht
    rcases hg : getK C L with _ | ⟨u0, uS, uM, uX⟩
    · have HA := Lib.hid (addK_new HK.out hg)
      rw [hg] at ht
      obtain ⟨rfl, hb5⟩ := ht.none_
      have HB5 : Hid (Below W1.heap.size W1 (w5.alloc (.cells #[.int .i64 0, .slice none 0 0, .slice none 0 0, .slice none 0 0] 42))) := Lib.hid ((HB4.out.trans (hb5.mono HB4.out.size)).alloc (Nat.le_trans HB4.out.size hb5.size) _)
      clear ht hg hb5
      obtain ⟨m1, x0, x1, x2, x3⟩ := KC.out _ HB5.out
      go_wp2_with fail
      clear m1 x0 x1 x2 x3
      generalize w5.alloc (.cells #[.int .i64 0, .slice none 0 0, .slice none 0 0, .slice none 0 0] 42) = w6 at HB5 ⊢
      have h6 := KH.out w6 HB5.out
      refine (refSetK_any (fun k hk => H0.out.1 k (Nat.le_trans h6.2.2.2.2.2.size hk)) H0.out.2.1 h6.1 hn hk H0.out.2.2.2.1.ris h6.2.1 h6.2.2.2.1).mono ?_
      rintro e w7 ⟨rfl, hR, hg7⟩
      have HF := Lib.hid (And.intro hR (grownBy_trans (grown_of h6.2.2.2.2.2 (some r)) hg7 (fun _ h => .inl h)))
      clear h6 hR hg7
      go_wp2_with fail
      go_ret
      rw [HA.out]
      exact ⟨rfl, HF.out.1, HF.out.2⟩
    · have HG := Lib.hid hg
      rw [hg] at ht
      obtain ⟨⟨B1, m1', d1, B2, m2, d2, B3, m3, d3, rfl, hel⟩, hb5⟩ := ht.some_
      have hu : u0 ≠ 0 := (H0.out.2.2.2.1.cell _ (getK_mem hg)).2.1
      have B5 : Below W1.heap.size W1 w5 := HB4.out.trans (hb5.mono HB4.out.size)
      have hal := below_a1 w5 (.cells #[.int .i64 u0, .slice B1 m1' d1, .slice B2 m2 d2, .slice B3 m3 d3] 42)
      have hT6 := Block.new w5 42 #[.int .i64 u0, .slice B1 m1' d1, .slice B2 m2 d2, .slice B3 m3 d3]
      have hy6 := (elCell_hasC hel).allocS (.cells #[.int .i64 u0, .slice B1 m1' d1, .slice B2 m2 d2, .slice B3 m3 d3] 42)
      have HB6 := Lib.hid (B5.alloc B5.size (.cells #[.int .i64 u0, .slice B1 m1' d1, .slice B2 m2 d2, .slice B3 m3 d3] 42))
      have HZ5 := Lib.hid (Nat.lt_of_lt_of_le hw1 B5.size)
      clear ht hg hb5 hel B5 hal
      go_upto_region 7 with fail
      generalize w5.alloc (.cells #[.int .i64 u0, .slice B1 m1' d1, .slice B2 m2 d2, .slice B3 m3 d3] 42) = w6 at HB6 hT6 hy6 ⊢
      obtain ⟨tb, htb⟩ : ∃ tb, w5.heap.size = tb := ⟨_, rfl⟩
      rw [htb] at hT6 HZ5 ⊢
      clear htb
      have h6 := KH.out w6 HB6.out
      have hmrg := Lib.hid (refMerge_new (q := u0) (q' := p) hy6 h6.2.2.1 ⟨hu, HP.out⟩)
      obtain ⟨z0, zS, zM, zX, er, HR⟩ : ∃ z P Q R er, Hid (cMerge (u0, uS, uM, uX) (p, Su, M, X) = ((z, P, Q, R), er)) := ⟨_, _, _, _, _, Lib.hid rfl⟩
      rw [HR.out] at hmrg
      have t0 : w6.cell? ⟨tb, 0, none⟩ = some (.int .i64 u0) := hT6.cell 0
      have t1 : w6.cell? ⟨tb, 1, none⟩ = some (.slice B1 m1' d1) := hT6.cell 1
      have t2 : w6.cell? ⟨tb, 2, none⟩ = some (.slice B2 m2 d2) := hT6.cell 2
      have t3 : w6.cell? ⟨tb, 3, none⟩ = some (.slice B3 m3 d3) := hT6.cell 3
      obtain ⟨m1, x0, x1, x2, x3⟩ := KC.out w6 HB6.out
      clear hu hy6 h6
      go_wp2_with fail
      refine hmrg.out.mono ?_
      rintro e w7 ⟨⟨v1, v2, v3, rfl, hO7⟩, hb7⟩
      have HB7 : Hid (Below W1.heap.size W1 w7) := Lib.hid (HB6.out.trans (hb7.mono HB6.out.size))
      obtain ⟨E1, l1, e1, E2, l2, e2, E3, l3, e3, rfl, rfl, rfl, _⟩ := hO7.form
      have hO7 := Lib.hid hO7
      have hlow : Hid (w.heap.size < w6.heap.size) := Lib.hid (Nat.lt_of_lt_of_le hw1 HB6.out.size)
      clear hb7 hmrg t0 t1 t2 t3 m1 x0 x1 x2 x3 hT6
      have HB8 := Lib.hid (HB7.out.alloc HB7.out.size (.cells #[.int .i64 z0, .slice E1 l1 e1, .slice E2 l2 e2, .slice E3 l3 e3] 42))
      have hO8 := Lib.hid (hO7.out.alloc (.cells #[.int .i64 z0, .slice E1 l1 e1, .slice E2 l2 e2, .slice E3 l3 e3] 42))
      by_cases he : er = 0
      · have hee : ((er : Int) != 0) = false := by simp [he]
        have HA := Lib.hid (addK_more HK.out HG.out (by rw [HR.out]; exact he))
        rw [HR.out] at HA
        subst he
        obtain ⟨m1, x0, x1, x2, x3⟩ := KC.out _ HB8.out
        have hXf := (KH.out _ HB8.out).2.2.2.2.1
        have f0 := hXf.free 0
        have f1 := hXf.free 1
        have f2 := hXf.free 2
        have f3 := hXf.free 3
        have HY : Hid (Below w.heap.size w (put4 (w7.alloc (.cells #[.int .i64 z0, .slice E1 l1 e1, .slice E2 l2 e2, .slice E3 l3 e3] 42)) w.heap.size (.int .i64 z0) (.slice E1 l1 e1) (.slice E2 l2 e2) (.slice E3 l3 e3)) ∧ OwnC (put4 (w7.alloc (.cells #[.int .i64 z0, .slice E1 l1 e1, .slice E2 l2 e2, .slice E3 l3 e3] 42)) w.heap.size (.int .i64 z0) (.slice E1 l1 e1) (.slice E2 l2 e2) (.slice E3 l3 e3)) w6.heap.size (.slice E1 l1 e1) (.slice E2 l2 e2) (.slice E3 l3 e3) zS zM zX ∧ Block (put4 (w7.alloc (.cells #[.int .i64 z0, .slice E1 l1 e1, .slice E2 l2 e2, .slice E3 l3 e3] 42)) w.heap.size (.int .i64 z0) (.slice E1 l1 e1) (.slice E2 l2 e2) (.slice E3 l3 e3)) w.heap.size 42 #[.int .i64 z0, .slice E1 l1 e1, .slice E2 l2 e2, .slice E3 l3 e3]) := Lib.hid ⟨below_put4 (KH.out _ HB8.out).2.2.2.2.2 (Nat.le_refl _) _ _ _ _, hO8.out.put4_ hlow.out _ _ _ _, hXf.put4_ _ _ _ _⟩
        clear hXf
        go_upto_region 11 with fail
        clear m1 x0 x1 x2 x3 f0 f1 f2 f3 hee
        obtain ⟨hbY, hOY, hXY⟩ := HY.out
        clear HY
        unfold put4 at hbY hOY hXY
        generalize ((((w7.alloc (.cells #[.int .i64 z0, .slice E1 l1 e1, .slice E2 l2 e2, .slice E3 l3 e3] 42)).setCell ⟨w.heap.size, 0, none⟩ (.int .i64 z0)).setCell ⟨w.heap.size, 1, none⟩ (.slice E1 l1 e1)).setCell ⟨w.heap.size, 2, none⟩ (.slice E2 l2 e2)).setCell ⟨w.heap.size, 3, none⟩ (.slice E3 l3 e3) = w9 at hbY hOY hXY ⊢
        have hcel : elCell w9 S [.int .i64 z0, .slice E1 l1 e1, .slice E2 l2 e2, .slice E3 l3 e3] (z0, zS, zM, zX) := elCellO_read (hOY.el (n := z0) fun k hk _ => H0.out.1 k (by have := hlow.out; omega))
        have hset := Lib.hid (refSetK_any (fun k hk => H0.out.1 k (Nat.le_trans hbY.size hk)) H0.out.2.1 (H0.out.2.2.1.belowS hbY) hn hk H0.out.2.2.2.1.ris (H0.out.2.2.2.2.1.belowS hbY) hcel)
        have x0 : w9.cell? ⟨w.heap.size, 0, none⟩ = some (.int .i64 z0) := hXY.cell 0
        have x1 : w9.cell? ⟨w.heap.size, 1, none⟩ = some (.slice E1 l1 e1) := hXY.cell 1
        have x2 : w9.cell? ⟨w.heap.size, 2, none⟩ = some (.slice E2 l2 e2) := hXY.cell 2
        have x3 : w9.cell? ⟨w.heap.size, 3, none⟩ = some (.slice E3 l3 e3) := hXY.cell 3
        have HbY := Lib.hid hbY
        clear hbY hOY hXY hcel
        go_wp2_with fail
        refine hset.out.mono ?_
        rintro e w10 ⟨rfl, hR, hg10⟩
        have HF := Lib.hid (And.intro hR (grownBy_trans (grown_of HbY.out (some r)) hg10 (fun _ h => .inl h)))
        clear hR hg10 x0 x1 x2 x3 hset
        go_wp2_with fail
        go_ret
        rw [HA.out]
        exact ⟨rfl, HF.out.1, HF.out.2⟩
      · have hee : ((er : Int) != 0) = true := by simpa using he
        have HA := Lib.hid (addK_far HK.out HG.out (by rw [HR.out]; exact he))
        rw [HR.out] at HA
        have HF := Lib.hid (show (∃ A' n' c', Rq (w7.alloc (.cells #[.int .i64 z0, .slice E1 l1 e1, .slice E2 l2 e2, .slice E3 l3 e3] 42)) r W m S A' n' c' C) ∧ w.grownBy (w7.alloc (.cells #[.int .i64 z0, .slice E1 l1 e1, .slice E2 l2 e2, .slice E3 l3 e3] 42)) (some r) from ⟨⟨A, n, c, (KH.out _ HB8.out).1⟩, grown_of (KH.out _ HB8.out).2.2.2.2.2 _⟩)
        clear he
        go_wp2_with fail
        go_ret
        rw [HA.out]
        exact ⟨rfl, HF.out.1, HF.out.2⟩
end Go.Proofs.Yteifhgcjmjihgaa
namespace Go.Proofs.Yteifhgcjmjihgaa
set_option maxRecDepth 100000
open Go.RowKit

/-- What the reference's Roll tells. -/
def TellRq (w : World) (W m : Nat) (r : Option Cub × Int) (e : Ending) (w' : World) : Prop := (match r.1 with
    | some D => ∃ g A n c, e = .returned (.tuple #[.pointer (some ⟨g, 0, none⟩), .int .i64 r.2]) ∧ w.heap.size ≤ g ∧ Rq w' g W m (fun k => w.heap.size ≤ k ∧ k ≠ g) A n c D
    | none => e = .returned (.tuple #[.pointer none, .int .i64 r.2])) ∧ Below w.heap.size w w'
theorem TellRq.none_ {w w' : World} {W m : Nat} {x : Int} {e : Ending} (h : TellRq w W m (none, x) e w') : e = .returned (.tuple #[.pointer none, .int .i64 x]) ∧ Below w.heap.size w w' := h
theorem TellRq.some_ {w w' : World} {W m : Nat} {D : Cub} {x : Int} {e : Ending} (h : TellRq w W m (some D, x) e w') : (∃ g A n c, e = .returned (.tuple #[.pointer (some ⟨g, 0, none⟩), .int .i64 x]) ∧ w.heap.size ≤ g ∧ Rq w' g W m (fun k => w.heap.size ≤ k ∧ k ≠ g) A n c D) ∧ Below w.heap.size w w' := h
theorem four_one (p : Int) (A1 : Option Addr) (n1 c1 : Nat) (A2 : Option Addr) (n2 c2 : Nat) (A3 : Option Addr) (n3 c3 : Nat) : ∀ u ∈ [Value.int .i64 p, .slice A1 n1 c1, .slice A2 n2 c2, .slice A3 n3 c3], u.oneCell' = true := by
  intro u hu
  simp at hu
  rcases hu with rfl | rfl | rfl | rfl <;> rfl
theorem setK_atmost (C : Cub) (k : List Int) (x : PC) : (setK C k x).length ≤ C.length + 1 := by
  induction C with
  | nil => simp [setK]
  | cons e C ih =>
    rw [setK]
    split
    · simp
    · split
      · simp
      · simp; omega
theorem rolled_atmost (C : Cub) (u : List Int → Option (List Int)) : ∀ J : List (List Int), (rolled C u J).length ≤ J.length
  | [] => by simp [rolled]
  | j :: J => by
    rw [rolled]
    have h1 := setK_atmost (rolled C u J) j (cSum (grp C u j)).1
    have h2 := rolled_atmost C u J
    simp only [List.length_cons]
    omega
theorem below_grown_new {w a c : World} {g : Nat} (hb : Below w.heap.size w a) (hg : a.grownBy c (some g)) (h : w.heap.size ≤ g) : Below w.heap.size w c :=
  ⟨hg.os.trans hb.os, hg.tape.trans hb.tape, hg.output.trans hb.output, Nat.le_trans hb.size hg.size, fun k hk => (hg.block k (Nat.lt_of_lt_of_le hk hb.size) (fun e => by injection e with e; omega)).trans (hb.block k hk)⟩
end Go.Proofs.Yteifhgcjmjihgaa
namespace Go.Proofs.Yteifhgcjmjihgaa
set_option maxRecDepth 100000
open Go.RowKit

def fewP (us : List (List Int)) (t : Nat) : List (List Int) := (us.take t).map fun l => l.take 45
def fewU (us : List (List Int)) : List (List Int) := fewP us 5
theorem fewP_step {us : List (List Int)} {t : Nat} {l : List Int} (h : us[t]? = some l) : fewP us (t + 1) = fewP us t ++ [l.take 45] := by
  unfold fewP
  rw [List.take_add_one, h, List.map_append]
  rfl
theorem fewP_len (us : List (List Int)) (t : Nat) : (fewP us t).length ≤ t := by
  unfold fewP
  rw [List.length_map, List.length_take]
  omega
theorem fewU_all {us : List (List Int)} {t : Nat} (h : ¬ (t < us.length ∧ t < 5)) (h5 : t ≤ 5) : fewP us t = fewU us := by
  unfold fewU fewP
  congr 1
  by_cases ht : t = 5
  · rw [ht]
  · rw [List.take_of_length_le (by omega), List.take_of_length_le (by omega)]
set_option maxRecDepth 100000 in
set_option maxHeartbeats 4000000 in
theorem lawFew_any {w : World} {A : Option Addr} {n c : Nat} {us : List (List Int)} (hU : HasL w w.heap.size A n c us) :
    Calls Try.prog 5 #[.slice A n c] w fun e w' => ∃ A' n' c', e = .returned (.slice A' n' c') ∧ HasL w' w'.heap.size A' n' c' (fewU us) ∧ Below w.heap.size w w' := by
  have hul := Lib.hid hU.len
  have hcm := hU.capMax
  have hcap := hU.cap
  have HU := Lib.hid hU
  clear hU
  go_enter Try.func5, Try.ntmps5
  go_wp2_with fail
  go_loopw [3, 4] (fun v i wr => ∃ t : Nat, t ≤ n ∧ t ≤ 5 ∧ i = .int .i64 t ∧ Hid (OwnR elInts 33 1 wr w.heap.size (fun k => k < w.heap.size) v (fewP us t) ∧ Below w.heap.size w wr)) (fun _ i _ => n - (intOf i).toNat)
  case atStart => exact ⟨0, Nat.zero_le _, by omega, rfl, Lib.hid ⟨by simpa [fewP] using OwnR.nil_ _ _ _, Below.refl _ _⟩⟩
  case round =>
    obtain ⟨t, ht, ht5, rfl, HO⟩ := hrel
    have hend : ¬ (t < n ∧ t < 5) → Hid (∃ A' n' c', u3 = .slice A' n' c' ∧ HasL wr wr.heap.size A' n' c' (fewU us)) := fun hx => Lib.hid (by
      obtain ⟨A', c', ev, hr⟩ := HO.out.1.read elInts_ok
      rw [fewU_all (by rw [hul.out]; exact hx) ht5] at ev hr
      exact ⟨A', _, c', ev, hr.hasL⟩)
    by_cases hlt : t < n
    · have hd : decide ((t : Int) < (n : Int)) = true := decide_eq_true (by omega)
      have hd0 : decide (t < n) = true := decide_eq_true hlt
      by_cases h5 : t < 5
      · have hd5 : decide ((t : Int) < 5) = true := decide_eq_true (by omega)
        have hd6 : decide (t < 5) = true := decide_eq_true h5
        obtain ⟨b, o, A', n', c', l, rfl, hb, hcell, hI, hl⟩ := (HU.out.below HO.out.2 (Nat.le_refl _)).at_ hlt
        have i0 : (0 : Int) ≤ (t : Int) := by omega
        have i1 : (t : Int) < (n : Int) := by omega
        have hut : Hid (us[t]? = some l) := Lib.hid (by
          have h1 : t < us.length := by rw [hul.out]; exact hlt
          rw [hl.out, List.getD_eq_getElem?_getD, List.getElem?_eq_getElem h1]
          rfl)
        have hcap' := hI.cap
        have hcm' := hI.capMax
        have hlen : Hid ((fewP us t).length ≤ 1000000) := Lib.hid (by have := fewP_len us t; omega)
        have HS := Lib.hid (fewP_step hut.out)
        by_cases h45 : (45 : Int) < (n' : Int)
        · have h46 : (45 : Int) ≤ (c' : Int) := by omega
          have hI2 := hI.take_ 45 (by omega)
          have HE : Hid (∀ ob : Obj, elInts (wr.alloc ob) (fun k => k < w.heap.size ∧ u3.ownBlock ≠ some k) [.slice A' 45 c'] (l.take 45)) := Lib.hid fun ob => ⟨A', 45, c', rfl, hI2.row.mv elInt_ok ((Mv.to wr fun k hk _ => ⟨hk, fun e => by have := (HO.out.1.lt k e).1; omega⟩).trans (Mv.alloc wr ob _))⟩
          clear hend hI hI2 hl
          go_wp2_with (at_builtin; refine wpList_appX elInts_ok rfl _ _ rfl info_ints Try.underlying23 rfl (by decide) w.heap.size _ _ _ rfl (HO.out.1.alloc elInts_ok (.cells #[.slice A' 45 c'] 33)) _ rfl [.slice A' 45 c'] rfl (l.take 45) (lit_at _ [.slice A' 45 c'] _) (by simp; rfl) (HE.out _) hlen.out (HO.out.2.alloc HO.out.2.size (.cells #[.slice A' 45 c'] 33)).size ?_; intro v3 w3 hO3 hG3)
          have hF : Hid (OwnR elInts 33 1 w3 w.heap.size (fun k => k < w.heap.size) v3 (fewP us (t + 1)) ∧ Below w.heap.size w w3) := Lib.hid ⟨by rw [HS.out]; exact hO3, (HO.out.2.alloc HO.out.2.size _).trans (hG3.below_ (HO.out.2.alloc HO.out.2.size _).size fun q e => (HO.out.1.lt q e).1)⟩
          clear hO3 hG3
          go_wp2_with fail
          go_roundw
          case rel => exact ⟨t + 1, by omega, by omega, by go_num, hF⟩
          case measure => simp [intOf]; omega
        · have hlt45 : l.take 45 = l := List.take_of_length_le (by have := hI.len; omega)
          rw [hlt45] at HS
          have HE : Hid (∀ ob : Obj, elInts (wr.alloc ob) (fun k => k < w.heap.size ∧ u3.ownBlock ≠ some k) [.slice A' n' c'] l) := Lib.hid fun ob => ⟨A', n', c', rfl, hI.row.mv elInt_ok ((Mv.to wr fun k hk _ => ⟨hk, fun e => by have := (HO.out.1.lt k e).1; omega⟩).trans (Mv.alloc wr ob _))⟩
          clear hend hI hl hlt45
          go_wp2_with (at_builtin; refine wpList_appX elInts_ok rfl _ _ rfl info_ints Try.underlying23 rfl (by decide) w.heap.size _ _ _ rfl (HO.out.1.alloc elInts_ok (.cells #[.slice A' n' c'] 33)) _ rfl [.slice A' n' c'] rfl l (lit_at _ [.slice A' n' c'] _) (by simp; rfl) (HE.out _) hlen.out (HO.out.2.alloc HO.out.2.size (.cells #[.slice A' n' c'] 33)).size ?_; intro v3 w3 hO3 hG3)
          have hF : Hid (OwnR elInts 33 1 w3 w.heap.size (fun k => k < w.heap.size) v3 (fewP us (t + 1)) ∧ Below w.heap.size w w3) := Lib.hid ⟨by rw [HS.out]; exact hO3, (HO.out.2.alloc HO.out.2.size _).trans (hG3.below_ (HO.out.2.alloc HO.out.2.size _).size fun q e => (HO.out.1.lt q e).1)⟩
          clear hO3 hG3
          go_wp2_with fail
          go_roundw
          case rel => exact ⟨t + 1, by omega, by omega, by go_num, hF⟩
          case measure => simp [intOf]; omega
      · have hd5 : decide ((t : Int) < 5) = false := decide_eq_false (by omega)
        have hd6 : decide (t < 5) = false := decide_eq_false h5
        obtain ⟨A', n', c', rfl, hF⟩ := (hend (fun h => h5 h.2)).out
        have HF := Lib.hid (And.intro hF HO.out.2)
        clear hend hF HO
        go_wp2_with fail
        go_ret
        exact ⟨A', n', c', rfl, HF.out.1, HF.out.2⟩
    · have hd : decide ((t : Int) < (n : Int)) = false := decide_eq_false (by omega)
      have hd0 : decide (t < n) = false := decide_eq_false hlt
      obtain ⟨A', n', c', rfl, hF⟩ := (hend (fun h => hlt h.1)).out
      have HF := Lib.hid (And.intro hF HO.out.2)
      clear hend hF HO
      go_wp2_with fail
      go_ret
      exact ⟨A', n', c', rfl, HF.out.1, HF.out.2⟩
end Go.Proofs.Yteifhgcjmjihgaa
