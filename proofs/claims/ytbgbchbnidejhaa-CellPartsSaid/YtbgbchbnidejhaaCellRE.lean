/- Layer 5: the reference: Empty. -/
import Derived.Test.YtbgbchbnidejhaaAcc
import Derived.Test.YtbgbchbnidejhaaCellU
import Derived.Test.YtbgbchbnidejhaaCellRS
namespace Go.Proofs.Ytbgbchbnidejhaa
open Go.RowKit

/-- What the reference's Empty tells. -/
def TellA (w : World) (m : Nat) (e : Ending) (w' : World) : Prop :=
  (∃ v1 v2 v3, e = .returned (.agg #[.int .i64 0, v1, v2, v3]) ∧ OwnC w' w.heap.size v1 v2 v3 (List.replicate m 0) (List.replicate m 0) (List.replicate m 0) ∧
    (∀ g, v1.ownBlock = some g → v2.ownBlock ≠ some g) ∧ (∀ g, v1.ownBlock = some g → v3.ownBlock ≠ some g) ∧ (∀ g, v2.ownBlock = some g → v3.ownBlock ≠ some g)) ∧ Below w.heap.size w w'
theorem repl_snoc (k : Nat) : List.replicate k (0 : Int) ++ [0] = List.replicate (k + 1) 0 := by rw [List.replicate_succ']

set_option maxRecDepth 100000 in
set_option maxHeartbeats 2000000 in
theorem refEmpty_any (x : Int) (w : World) {m : Nat} (hm : m = (min (max x 0) 2).toNat) :
    Calls Try.prog 18 #[.int .i64 x] w (TellA w m) := by
  have HM := Lib.hid hm
  have hm2 : m ≤ 2 := by omega
  clear hm
  go_enter Try.func18, Try.ntmps18
  go_wp2_with fail
  have hR := (Block.new w 26 #[.int .i64 0, .slice none 0 0, .slice none 0 0, .slice none 0 0]).alloc (.cells #[.int .i64 0, .slice none 0 0, .slice none 0 0, .slice none 0 0] 26)
  have hA := Acc.new (w0 := w) (Block.new (w.alloc (.cells #[.int .i64 0, .slice none 0 0, .slice none 0 0, .slice none 0 0] 26)) 26 #[.int .i64 0, .slice none 0 0, .slice none 0 0, .slice none 0 0]) (below_a2 w _ _) (by simp)
  rw [World.size_alloc] at hA
  generalize (w.alloc (.cells #[.int .i64 0, .slice none 0 0, .slice none 0 0, .slice none 0 0] 26)).alloc (.cells #[.int .i64 0, .slice none 0 0, .slice none 0 0, .slice none 0 0] 26) = W at hR hA ⊢
  have hrs : ¬ w.heap.size + 1 = w.heap.size := by omega
  generalize w.heap.size + 1 = s at hA hrs ⊢
  go_loopw [4] (fun i wr => ∃ (k : Nat) (v1 v2 v3 : Value), k ≤ m ∧ i = .int .i64 k ∧ Block wr w.heap.size 26 #[.int .i64 0, .slice none 0 0, .slice none 0 0, .slice none 0 0] ∧ Acc w wr s 0 v1 v2 v3 (List.replicate k 0) (List.replicate k 0) (List.replicate k 0)) (fun i _ => m - (intOf i).toNat)
  case atStart => exact ⟨0, _, _, _, Nat.zero_le _, rfl, hR, hA⟩
  case round =>
    obtain ⟨k, v1, v2, v3, hk, rfl, hR, hA⟩ := hrel
    obtain ⟨A1, n1, c1, rfl, _⟩ := hA.r1.formN
    obtain ⟨A2, n2, c2, rfl, _⟩ := hA.r2.formN
    obtain ⟨A3, n3, c3, rfl, _⟩ := hA.r3.formN
    by_cases hlt : k < m
    · have hx : (k : Int) < x := by have := HM.out; omega
      have h2 : (k : Int) < 2 := by omega
      have g1 : wr.cell? ⟨s, 1, none⟩ = some (.slice A1 n1 c1) := hA.blk.cell 1
      have hT : 26 ≠ 3 := by decide
      go_wp2_with (at_builtin; refine wpList_appI rfl _ _ rfl w.heap.size _ _ rfl (hA.alloc _).r1 _ rfl 0 (cell_lit _ _ _ _ (by simp)) (by simp; omega) (hA.alloc _).bel.size ?_)
      intro u1 w1 hO1 hG1
      obtain ⟨B1, l1, d1, rfl, _⟩ := hO1.formN
      have hR1 := ((hR.alloc _).app hT (hA.alloc _).r1 hG1).elsewhere s 1 (.slice B1 l1 d1) hrs
      obtain ⟨hB1, hA1⟩ := (hA.alloc _).app1 hO1 hG1
      have p0 := hB1.cell 1
      have p1 := hB1.free 1
      have p2 : (w1.setCell ⟨s, 1, none⟩ (.slice B1 l1 d1)).cell? ⟨s, 2, none⟩ = some (.slice A2 n2 c2) := hA1.blk.cell 2
      clear hA hR g1 hO1 hG1 hB1
      go_wp2_with (at_builtin; refine wpList_appI rfl _ _ rfl w.heap.size _ _ rfl (hA1.alloc _).r2 _ rfl 0 (cell_lit _ _ _ _ (by simp)) (by simp; omega) (hA1.alloc _).bel.size ?_)
      intro u2 w2 hO2 hG2
      obtain ⟨B2, l2, d2, rfl, _⟩ := hO2.formN
      have hR2 := ((hR1.alloc _).app hT (hA1.alloc _).r2 hG2).elsewhere s 2 (.slice B2 l2 d2) hrs
      obtain ⟨hB2, hA2⟩ := (hA1.alloc _).app2 hO2 hG2
      have q0 := hB2.cell 2
      have q1 := hB2.free 2
      have q2 : (w2.setCell ⟨s, 2, none⟩ (.slice B2 l2 d2)).cell? ⟨s, 3, none⟩ = some (.slice A3 n3 c3) := hA2.blk.cell 3
      clear hA1 hR1 p0 p1 p2 hO2 hG2 hB2
      go_wp2_with (at_builtin; refine wpList_appI rfl _ _ rfl w.heap.size _ _ rfl (hA2.alloc _).r3 _ rfl 0 (cell_lit _ _ _ _ (by simp)) (by simp; omega) (hA2.alloc _).bel.size ?_)
      intro u3 w3 hO3 hG3
      obtain ⟨B3, l3, d3, rfl, _⟩ := hO3.formN
      have hR3 := Lib.hid (((hR2.alloc _).app hT (hA2.alloc _).r3 hG3).elsewhere s 3 (.slice B3 l3 d3) hrs)
      obtain ⟨hB3, hA3⟩ := (hA2.alloc _).app3 hO3 hG3
      have t0 := hB3.cell 3
      have t1 := hB3.free 3
      rw [repl_snoc] at hA3
      have hA4 := Lib.hid hA3
      clear hA2 hR2 q0 q1 q2 hO3 hG3 hB3 hA3
      go_wp2_with fail
      go_roundw
      case rel => exact ⟨k + 1, _, _, _, by omega, by go_num, hR3.out, hA4.out⟩
      case measure => simp [intOf]; omega
    · obtain rfl : k = m := by omega
      have r0 : wr.cell? ⟨w.heap.size, 0, none⟩ = some (.int .i64 0) := hR.cell 0
      have r1 : wr.cell? ⟨w.heap.size, 1, none⟩ = some (.slice none 0 0) := hR.cell 1
      have r2 : wr.cell? ⟨w.heap.size, 2, none⟩ = some (.slice none 0 0) := hR.cell 2
      have r3 : wr.cell? ⟨w.heap.size, 3, none⟩ = some (.slice none 0 0) := hR.cell 3
      have f0 := hR.free 0
      have f1 := hR.free 1
      have f2 := hR.free 2
      have f3 := hR.free 3
      have s0 : wr.cell? ⟨s, 0, none⟩ = some (.int .i64 0) := hA.blk.cell 0
      have s1 : wr.cell? ⟨s, 1, none⟩ = some (.slice A1 n1 c1) := hA.blk.cell 1
      have s2 : wr.cell? ⟨s, 2, none⟩ = some (.slice A2 n2 c2) := hA.blk.cell 2
      have s3 : wr.cell? ⟨s, 3, none⟩ = some (.slice A3 n3 c3) := hA.blk.cell 3
      have hT : 26 ≠ 3 := by decide
      have hRR := Lib.hid (hR.put4_ (.int .i64 0) (.slice A1 n1 c1) (.slice A2 n2 c2) (.slice A3 n3 c3))
      have hRB := Lib.hid (below_put4 hA.bel (Nat.le_refl _) (.int .i64 0) (.slice A1 n1 c1) (.slice A2 n2 c2) (.slice A3 n3 c3))
      have key : ∀ {v : Value} {l : List Int} {w' : World}, OwnI w' w.heap.size v l → v.ownBlock ≠ some w.heap.size → ∀ (j : Nat) (u : Value), OwnI (w'.setCell ⟨w.heap.size, j, none⟩ u) w.heap.size v l := fun h hn j u => h.other hn u
      have n1' := hA.r1.ne_blk hR hT
      have n2' := hA.r2.ne_blk hR hT
      have n3' := hA.r3.ne_blk hR hT
      have hRO : Hid (OwnC (put4 wr w.heap.size (.int .i64 0) (.slice A1 n1 c1) (.slice A2 n2 c2) (.slice A3 n3 c3)) w.heap.size (.slice A1 n1 c1) (.slice A2 n2 c2) (.slice A3 n3 c3) (List.replicate k 0) (List.replicate k 0) (List.replicate k 0)) :=
        Lib.hid ⟨key (key (key (key hA.r1 n1' 0 _) n1' 1 _) n1' 2 _) n1' 3 _, key (key (key (key hA.r2 n2' 0 _) n2' 1 _) n2' 2 _) n2' 3 _, key (key (key (key hA.r3 n3' 0 _) n3' 1 _) n3' 2 _) n3' 3 _⟩
      have hD := Lib.hid (And.intro hA.d12 (And.intro hA.d13 hA.d23))
      clear hA hR key n1' n2' n3'
      by_cases hx : (k : Int) < x
      · have h2 : ¬ (k : Int) < 2 := by have := HM.out; omega
        go_wp2_with fail
        refine bodyPost_ret (results_block1 rfl _ _ w.heap.size _ _ rfl hRR.out Try.underlying26 rfl info_cell) rfl ?_
        exact ⟨⟨_, _, _, rfl, hRO.out, hD.out⟩, hRB.out⟩
      · go_wp2_with fail
        refine bodyPost_ret (results_block1 rfl _ _ w.heap.size _ _ rfl hRR.out Try.underlying26 rfl info_cell) rfl ?_
        exact ⟨⟨_, _, _, rfl, hRO.out, hD.out⟩, hRB.out⟩
end Go.Proofs.Ytbgbchbnidejhaa
