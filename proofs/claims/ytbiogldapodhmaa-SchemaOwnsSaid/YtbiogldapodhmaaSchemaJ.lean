/- Layer 8: rows of ints are joined; the program's and the reference's. -/
import Derived.Test.YtbiogldapodhmaaSchemaI
import Derived.Deep.RegionLaw
namespace Go.Proofs.Ytbiogldapodhmaa
open Go.RowKit

/-- What a call tells that tells new ints. -/
def TellJ (w : World) (l : List Int) (e : Ending) (w' : World) : Prop := (∃ v, e = .returned v ∧ OwnI w' w.heap.size v l) ∧ Below w.heap.size w w'
theorem joinP_ne {v w : List Int} (h : v.length ≠ w.length) : joinP v w = [] := by simp [joinP, h]
theorem join_all {v w : List Int} {k : Nat} (h : v.length = w.length) (hk : v.length ≤ k) : (joinP v w).take k = joinP v w := List.take_of_length_le (by rw [joinP_len h]; exact hk)
set_option maxRecDepth 100000 in
set_option maxHeartbeats 1000000 in
theorem join_any {A A' : Option Addr} {n c n' c' : Nat} {L L' : List Int} {w : World} (hr : HasI w w.heap.size A n c L) (hr' : HasI w w.heap.size A' n' c' L') (hn6 : n ≤ 1000000) :
    Calls Try.prog 24 #[.slice A n c, .slice A' n' c'] w (TellJ w (joinP L L')) := by
  have hll := hr.len
  have hll' := hr'.len
  by_cases h : n = n'
  · subst h
    have hne : ((n : Int) != (n : Int)) = false := by simp
    have HE : Hid (L.length = L'.length) := Lib.hid (by omega)
    have HL := Lib.hid hll
    clear hll hll'
    go_enter Try.func24, Try.ntmps24
    go_wp2
    clear hne
    go_loopw [5, 14] (fun v i wr => ∃ k : Nat, k ≤ n ∧ i = .int .i64 k ∧ OwnI wr w.heap.size v ((joinP L L').take k) ∧ Below w.heap.size w wr) (fun _ i _ => n - (intOf i).toNat)
    case atStart => exact ⟨0, Nat.zero_le _, rfl, OwnI.nil_ w _, Below.refl _ _⟩
    case round =>
      obtain ⟨k, hk, rfl, hO, hB⟩ := hrel
      by_cases hlt : k < n
      · obtain ⟨b, o, x, rfl, hb, hc, ex⟩ := (hr.below hB (Nat.le_refl _)).at_ hlt
        obtain ⟨b', o', x', rfl, hb', hc', ex'⟩ := (hr'.below hB (Nat.le_refl _)).at_ hlt
        have HT : Hid ((joinP L L').take k ++ [max x x'] = (joinP L L').take (k + 1)) := Lib.hid (by rw [ex.out, ex'.out]; exact joinP_snoc HE.out (by have := HL.out; omega))
        have hz := hB.size
        have i0 : (0 : Int) ≤ (k : Int) := by omega
        have i1 : (k : Int) < (n : Int) := by omega
        have hlb : Hid (((joinP L L').take k).length ≤ 1000000) := Lib.hid (Nat.le_trans (List.length_take_le k _) (by omega))
        go_wp2
        obtain ⟨m, hm⟩ : ∃ m, max x x' = m := ⟨_, rfl⟩
        rw [hm] at HT
        have HO := Lib.hid (show OwnI (wr.drew.alloc (.cells #[.int .i64 m] 3)) w.heap.size _ _ from (hO.drewN 1).alloc _)
        have HC := Lib.hid (cell_lit wr.drew m 3 wr.heap.size rfl)
        have HS : Hid (w.heap.size ≤ (wr.drew.alloc (.cells #[.int .i64 m] 3)).heap.size) := Lib.hid (by rw [World.size_alloc]; show _ ≤ wr.heap.size + 1; omega)
        go_region_law (refine step_appI rfl _ _ rfl w.heap.size _ _ rfl HO.out _ rfl m HC.out hlb.out HS.out ?_; intro v' w2 hO2 hG2)
        all_goals
          have hB2 := Lib.hid ((show Below w.heap.size w (wr.drew.alloc (.cells #[.int .i64 m] 3)) from (hB.drew).alloc (by show _ ≤ wr.heap.size; omega) _).trans (hG2.below_ HS.out (fun g e => (HO.out.lt g e).1)))
          rw [HT.out] at hO2
          have hO3 := Lib.hid hO2
          clear hO hO2 hG2 hB HO HC HS
          go_wp2_with fail
          go_roundw
          case rel => exact ⟨k + 1, by omega, by go_num, hO3.out, hB2.out⟩
          case measure => simp [intOf]; omega
      · have H := Lib.hid (join_all (k := k) HE.out (by have := HL.out; omega))
        rw [H.out] at hO
        have HO := Lib.hid hO
        clear hO
        go_wp2
        go_ret
        exact ⟨⟨_, rfl, HO.out⟩, hB⟩
  · have hne : ((n : Int) != (n' : Int)) = true := by simp; omega
    have H := Lib.hid (joinP_ne (v := L) (w := L') (by omega))
    clear hll hll'
    go_enter Try.func24, Try.ntmps24
    go_wp2
    go_ret
    exact ⟨⟨_, rfl, by rw [H.out]; exact OwnI.nil_ w _⟩, Below.refl _ _⟩
set_option maxRecDepth 100000 in
set_option maxHeartbeats 1000000 in
/-- The reference's Join. -/
theorem refJoin_any {A A' : Option Addr} {n c n' c' : Nat} {L L' : List Int} {w : World} (hr : HasI w w.heap.size A n c L) (hr' : HasI w w.heap.size A' n' c' L') (hn6 : n ≤ 1000000) :
    Calls Try.prog 25 #[.slice A n c, .slice A' n' c'] w (TellJ w (joinP L L')) := by
  have hll := hr.len
  have hll' := hr'.len
  by_cases h : n = n'
  · subst h
    have hne : ((n : Int) != (n : Int)) = false := by simp
    have HE : Hid (L.length = L'.length) := Lib.hid (by omega)
    have HL := Lib.hid hll
    clear hll hll'
    go_enter Try.func25, Try.ntmps25
    go_wp2
    clear hne
    go_loopw [5, 6] (fun v i wr => ∃ k : Nat, k ≤ n ∧ i = .int .i64 k ∧ OwnI wr w.heap.size v ((joinP L L').take k) ∧ Below w.heap.size w wr) (fun _ i _ => n - (intOf i).toNat)
    case atStart => exact ⟨0, Nat.zero_le _, rfl, OwnI.nil_ w _, Below.refl _ _⟩
    case round =>
      obtain ⟨k, hk, rfl, hO, hB⟩ := hrel
      by_cases hlt : k < n
      · obtain ⟨b, o, x, rfl, hb, hc, ex⟩ := (hr.below hB (Nat.le_refl _)).at_ hlt
        obtain ⟨b', o', x', rfl, hb', hc', ex'⟩ := (hr'.below hB (Nat.le_refl _)).at_ hlt
        have HT : Hid ((joinP L L').take k ++ [max x x'] = (joinP L L').take (k + 1)) := Lib.hid (by rw [ex.out, ex'.out]; exact joinP_snoc HE.out (by have := HL.out; omega))
        have hz := hB.size
        have i0 : (0 : Int) ≤ (k : Int) := by omega
        have i1 : (k : Int) < (n : Int) := by omega
        have hlb : Hid (((joinP L L').take k).length ≤ 1000000) := Lib.hid (Nat.le_trans (List.length_take_le k _) (by omega))
        go_wp2
        by_cases hxx : x < x'
        · rw [Int.max_eq_right (by omega)] at HT
          have hO1 := (hO.drewN 1).alloc (.cells #[.int .i64 x'] 3)
          go_quiet (fail)
          have hB1 := below_drewN hB nq
          have hO1 := (hO.drewN nq)
          have hc2 : (wr.drewN nq).cell? ⟨b', o' + k, none⟩ = some (.int .i64 x') := hc'
          have hz1 : w.heap.size ≤ (wr.drewN nq).heap.size := hz
          clear hO hB hc hc'
          generalize wr.drewN nq = wq at hB1 hO1 hc2 hz1 ⊢
          have hlo := fun g e => (hO1.lt g e).1
          have hO2 := hO1.alloc (.cells #[.int .i64 x'] 3)
          go_wp2_with (at_builtin; refine wpList_appI rfl _ _ rfl w.heap.size _ _ rfl hO2 _ rfl x' (cell_lit _ _ _ _ rfl) hlb.out (by rw [World.size_alloc]; omega) ?_)
          intro v' w2 hO3 hG2
          have hB2 := Lib.hid ((hB1.alloc hz1 (.cells #[.int .i64 x'] 3)).trans (hG2.below_ (by rw [World.size_alloc]; omega) hlo))
          rw [HT.out] at hO3
          have hO4 := Lib.hid hO3
          clear hO1 hO2 hO3 hG2 hlo hB1 hc2
          go_wp2_with fail
          go_roundw
          case rel => exact ⟨k + 1, by omega, by go_num, hO4.out, hB2.out⟩
          case measure => simp [intOf]; omega
        · rw [Int.max_eq_left (by omega)] at HT
          go_quiet (fail)
          have hB1 := below_drewN hB nq
          have hO1 := (hO.drewN nq)
          have hc2 : (wr.drewN nq).cell? ⟨b, o + k, none⟩ = some (.int .i64 x) := hc
          have hz1 : w.heap.size ≤ (wr.drewN nq).heap.size := hz
          clear hO hB hc hc'
          generalize wr.drewN nq = wq at hB1 hO1 hc2 hz1 ⊢
          have hlo := fun g e => (hO1.lt g e).1
          have hO2 := hO1.alloc (.cells #[.int .i64 x] 3)
          go_wp2_with (at_builtin; refine wpList_appI rfl _ _ rfl w.heap.size _ _ rfl hO2 _ rfl x (cell_lit _ _ _ _ rfl) hlb.out (by rw [World.size_alloc]; omega) ?_)
          intro v' w2 hO3 hG2
          have hB2 := Lib.hid ((hB1.alloc hz1 (.cells #[.int .i64 x] 3)).trans (hG2.below_ (by rw [World.size_alloc]; omega) hlo))
          rw [HT.out] at hO3
          have hO4 := Lib.hid hO3
          clear hO1 hO2 hO3 hG2 hlo hB1 hc2
          go_wp2_with fail
          go_roundw
          case rel => exact ⟨k + 1, by omega, by go_num, hO4.out, hB2.out⟩
          case measure => simp [intOf]; omega
      · have H := Lib.hid (join_all (k := k) HE.out (by have := HL.out; omega))
        rw [H.out] at hO
        have HO := Lib.hid hO
        clear hO
        go_wp2
        go_ret
        exact ⟨⟨_, rfl, HO.out⟩, hB⟩
  · have hne : ((n : Int) != (n' : Int)) = true := by simp; omega
    have H := Lib.hid (joinP_ne (v := L) (w := L') (by omega))
    clear hll hll'
    go_enter Try.func25, Try.ntmps25
    go_wp2
    go_ret
    exact ⟨⟨_, rfl, by rw [H.out]; exact OwnI.nil_ w _⟩, Below.refl _ _⟩
end Go.Proofs.Ytbiogldapodhmaa
