/- Layer 8, the reference: all corners. -/
import Derived.Test.YtbiogldapodhmaaSchemaS
namespace Go.Proofs.Ytbiogldapodhmaa
open Go.RowKit Go.Maps

def rowsA (l : List Int) (t : Nat) : List (List Int) := (List.range t).map fun (q : Nat) => l ++ [(q : Int)]
theorem rowsA_snoc (l : List Int) (t : Nat) : rowsA l t ++ [l ++ [(t : Int)]] = rowsA l (t + 1) := by simp [rowsA, List.range_succ]
/-- What is there behind j rows, and t of the next. -/
def nxtP (L : List (List Int)) (m j t : Nat) : List (List Int) := stepA (L.take j) m ++ rowsA (L.getD j []) t
theorem nxt_zero (L : List (List Int)) (m j : Nat) : nxtP L m j 0 = stepA (L.take j) m := by simp [nxtP, rowsA]
theorem nxt_snoc {L : List (List Int)} {m j t : Nat} {l : List Int} (he : l = L.getD j []) : nxtP L m j t ++ [l ++ [(t : Int)]] = nxtP L m j (t + 1) := by
  unfold nxtP
  rw [List.append_assoc, ← he, rowsA_snoc]
theorem stepA_snoc (A : List (List Int)) (x : List Int) (m : Nat) : stepA (A ++ [x]) m = stepA A m ++ rowsA x (m + 1) := by
  unfold stepA rowsA
  rw [List.flatMap_append]
  simp
theorem nxt_full {L : List (List Int)} {m j : Nat} (hj : j < L.length) : nxtP L m j (m + 1) = stepA (L.take (j + 1)) m := by
  have e : L.getD j [] = L[j] := by rw [List.getD_eq_getElem?_getD, List.getElem?_eq_getElem hj]; rfl
  rw [List.take_succ_eq_append_getElem hj, stepA_snoc, nxtP, e]
theorem nxt_len {L : List (List Int)} {m j t : Nat} (hL : L.length ≤ 625) (hm : m ≤ 4) (ht : t ≤ 5) : (nxtP L m j t).length ≤ 1000000 := by
  unfold nxtP
  rw [List.length_append, stepA_len, rowsA, List.length_map, List.length_range]
  have h1 := List.length_take_le' j L
  have h2 : (L.take j).length * (m + 1) ≤ 625 * 5 := Nat.mul_le_mul (by omega) (by omega)
  omega
theorem all_step {D : List PDim} {k : Nat} {x : Txt} {T : List Txt} {m : Nat} (hk : k < D.length) (he : D.getD k zeroD = (x, T)) (hm : T.length = m) : allP (D.take (k + 1)) = stepA (allP (D.take k)) m := by
  have e : D[k] = (x, T) := by rw [← he, List.getD_eq_getElem?_getD, List.getElem?_eq_getElem hk]; rfl
  rw [List.take_succ_eq_append_getElem hk, allP_snoc, e, hm]
theorem all_row {D : List PDim} {j : Nat} (h : j < (allP D).length) : ((allP D).getD j []).length = D.length := by
  have h1 : (allP D).getD j [] ∈ allP D := by rw [List.getD_eq_getElem?_getD, List.getElem?_eq_getElem h]; exact List.getElem_mem h
  exact (allP_corner D _ h1).1
set_option maxRecDepth 100000 in
set_option maxHeartbeats 4000000 in
theorem all_any {A1 A2 A3 : Option Addr} {n1 c1 n2 c2 n3 c3 : Nat} {D : List PDim} {w : World} (h : HasDs w w.heap.size A1 n1 c1 D) (hn : n1 ≤ 4) (hl : ∀ d ∈ D, d.2.length ≤ 4) :
    Calls Try.prog 28 #[schV A1 n1 c1 A2 n2 c2 A3 n3 c3] w (TellL w (allP D)) := by
  have HD := Lib.hid h.len
  have HL4 := Lib.hid hl
  have hb0 := below_a1 w (.cells #[.slice A1 n1 c1, .slice A2 n2 c2, .slice A3 n3 c3] 26)
  have h1 := h.belowS hb0
  have hS := Block.new w 26 #[.slice A1 n1 c1, .slice A2 n2 c2, .slice A3 n3 c3]
  clear h hl
  go_enter Try.func28, Try.ntmps28
  go_wp2_with fail
  have hz1 : w.heap.size + 1 = (w.alloc (.cells #[.slice A1 n1 c1, .slice A2 n2 c2, .slice A3 n3 c3] 26)).heap.size := by simp
  generalize w.alloc (.cells #[.slice A1 n1 c1, .slice A2 n2 c2, .slice A3 n3 c3] 26) = w1 at hb0 h1 hS hz1 ⊢
  have hO0 := OwnLs.lit (OwnI.nil_ w1 w1.heap.size) (w.heap.size + 1) hz1 (Nat.le_of_eq hz1.symm)
  clear hz1
  have hB0 := below_a1 w1 (.cells #[.slice none 0 0] 30)
  generalize w1.alloc (.cells #[.slice none 0 0] 30) = w2 at hO0 hB0 ⊢
  go_loopw [3, 4] (fun v i wr => ∃ (k : Nat) (A : Option Addr) (N c : Nat) (L : List (List Int)), k ≤ n1 ∧ i = .int .i64 k ∧ v = .slice A N c ∧ HasL wr wr.heap.size A N c L ∧ Below w1.heap.size w1 wr ∧ Hid (allP (D.take k) = L) ∧ Hid (N ≤ 5 ^ k)) (fun _ i _ => n1 - (intOf i).toNat)
  case atStart =>
    obtain ⟨A, c, e, hL⟩ := hO0.form
    injection e with e1 _ e3
    subst e1 e3
    exact ⟨0, _, 1, 1, [[]], Nat.zero_le _, rfl, rfl, hL, hB0, Lib.hid rfl, Lib.hid (by decide)⟩
  case round =>
    obtain ⟨k, A, N, c, L, hk, rfl, rfl, hL, hB, hLe, h5⟩ := hrel
    obtain ⟨wo, rfl⟩ : ∃ wo, wo = wr := ⟨_, rfl⟩
    clear hO0 hB0
    have s0 : wo.cell? ⟨w.heap.size, 0, none⟩ = some (.slice A1 n1 c1) := (hS.below hB hS.lt).cell 0
    by_cases hlt : k < n1
    · obtain ⟨b, o, x, A', m, c', T, rfl, hb, g0, g1, hT, he⟩ := h1.at_ hlt
      have i0 : (0 : Int) ≤ (k : Int) := by omega
      have i1 : (k : Int) < (n1 : Int) := by omega
      have hm4 : m ≤ 4 := by
        have h2 : D.getD k zeroD ∈ D := by rw [List.getD_eq_getElem?_getD, List.getElem?_eq_getElem (by have := HD.out; omega)]; exact List.getElem_mem _
        have := HL4.out _ h2
        rw [he.out] at this
        have h3 := hT.len
        have : T.length ≤ 4 := this
        omega
      have HN := Lib.hid (all_step (by have := HD.out; omega) he.out hT.len)
      have hLN := Lib.hid hL.len
      have h625 : N ≤ 625 := Nat.le_trans h5.out (Nat.le_trans (Nat.pow_le_pow_right (by decide) (show k ≤ 4 by omega)) (by decide))
      have HW := Lib.hid (show ∀ W, Below wo.heap.size wo W → W.cell? ⟨w.heap.size, 0, none⟩ = some (.slice (some ⟨b, o, none⟩) n1 c1) ∧ W.cell? ⟨b, o + k * 2 + 1, none⟩ = some (.slice A' m c') ∧ HasL W wo.heap.size A N c L from fun W hW => by
        have hBW := hB.trans (hW.mono hB.size)
        exact ⟨(hS.below hBW hS.lt).cell 0, (hBW.cell (p := ⟨b, o + k * 2 + 1, none⟩) hb).trans g1, hL.below hW (Nat.le_refl _)⟩)
      clear hT g0 g1 hL
      go_wp2_with fail
      go_loopw [5, 6] (fun v i wr => ∃ j : Nat, j ≤ N ∧ i = .int .i64 j ∧ OwnLs wr wo.heap.size v (stepA (L.take j) m) ∧ Below wo.heap.size wo wr) (fun _ i _ => N - (intOf i).toNat)
      case atStart => exact ⟨0, Nat.zero_le _, rfl, by simpa [stepA] using OwnLs.nil_ wo wo.heap.size, Below.refl _ _⟩
      case round =>
        obtain ⟨j, hj, rfl, hO, hC⟩ := hrel
        clear s0
        by_cases hjN : j < N
        · have j0 : (0 : Int) ≤ (j : Int) := by omega
          have j1 : (j : Int) < (N : Int) := by omega
          rw [← nxt_zero L m j] at hO
          go_wp2_with fail
          go_loopw [5, 7] (fun v i wr => ∃ t : Nat, t ≤ m + 1 ∧ i = .int .i64 t ∧ OwnLs wr wo.heap.size v (nxtP L m j t) ∧ Below wo.heap.size wo wr) (fun _ i _ => m + 1 - (intOf i).toNat)
          case atStart => exact ⟨0, Nat.zero_le _, rfl, hO, hC⟩
          case round =>
            obtain ⟨t, ht, rfl, hO, hC⟩ := hrel
            obtain ⟨s0, s1, hLr⟩ := HW.out wr hC
            by_cases htm : t ≤ m
            · have t0 : (t : Int) ≤ (m : Int) := by omega
              obtain ⟨b2, o2, A2', n2', c2', l, rfl, hb2, g2, hl2, hle⟩ := hLr.at_ hjN
              have hn2 : Hid (n2' ≤ 4) := Lib.hid (by
                have h2 := hl2.len
                have h3 := all_row (D := D.take k) (j := j) (by rw [hLe.out, hLN.out]; exact hjN)
                rw [hLe.out, ← hle.out, List.length_take] at h3
                omega)
              have hsz := hC.size
              have hbts : (([] : List Int).length + n2') * 8 ≤ 140737488355328 := by have := hn2.out; simp; omega
              have Hb := Lib.hid hbts
              clear hbts hLr
              go_wp2_with (at_builtin; refine wpList_appIs rfl _ _ rfl wr.heap.size _ [] rfl (OwnI.nil_ wr wr.heap.size) wo.heap.size _ n2' c2' l rfl hl2 Hb.out (Nat.le_refl _) ?_)
              intro v1 w5 hO5 hG5
              have hb5 := hG5.below_ (Nat.le_refl _) (fun k hk => by cases hk)
              have hO5 : OwnI w5 wr.heap.size v1 l := by simpa using hO5
              have hlo5 := fun g e => (hO5.lt g e).1
              have hO6 := hO5.alloc (.cells #[.int .i64 (t : Int)] 3)
              have hz5 := hb5.size
              have hl5 : Hid (l.length ≤ 1000000) := Lib.hid (by have := hl2.len; have := hn2.out; omega)
              clear hG5 s0 s1 g2 hl2
              go_wp2_with (at_builtin; refine wpList_appI rfl _ _ rfl wr.heap.size _ _ rfl hO6 _ rfl (t : Int) (cell_lit _ _ _ _ rfl) hl5.out (by rw [World.size_alloc]; omega) ?_)
              intro v2 w7 hO7 hG7
              have hb7 := hb5.trans (((below_a1 w5 (.cells #[.int .i64 (t : Int)] 3)).mono hz5).trans (hG7.below_ (by rw [World.size_alloc]; omega) hlo5))
              have hN7 := (hO.below hb7).alloc (.cells #[v2] 30)
              have hC7 := hC.trans (hb7.mono hsz)
              have hy7 := (hO7.low hsz).alloc (.cells #[v2] 30)
              have hlo7 := fun g e => (hN7.lt g e).1
              have hz7 := hC7.size
              have hlen7 := Lib.hid (nxt_len (L := L) (m := m) (j := j) (t := t) (by rw [hLN.out]; exact h625) hm4 (by omega))
              have HS := Lib.hid (nxt_snoc (L := L) (m := m) (j := j) (t := t) hle.out)
              obtain ⟨Ay, ny, cy, rfl, _⟩ := hO7.formN
              clear hG7 hO5 hO6 hO7 hO hC hb5 hb7 hlo5
              go_wp2_with (at_builtin; refine wpList_appLs rfl _ _ rfl wo.heap.size _ _ rfl hN7 _ rfl _ (l ++ [(t : Int)]) (cell_litS _ _ _ _ rfl) hy7 hlen7.out (by rw [World.size_alloc]; omega) ?_)
              intro v3 w9 hO9 hG9
              have hB9 := Lib.hid ((hC7.alloc hz7 (.cells #[.slice Ay ny cy] 30)).trans (hG9.below_ (by rw [World.size_alloc]; omega) hlo7))
              rw [HS.out] at hO9
              have hO10 := Lib.hid hO9
              clear hN7 hy7 hO9 hG9 hlo7 hC7
              go_wp2_with fail
              go_roundw
              case rel => exact ⟨t + 1, by omega, by go_num, hO10.out, hB9.out⟩
              case measure => simp [intOf]; omega
            · obtain rfl : t = m + 1 := by omega
              have t0 : ¬ ((m + 1 : Nat) : Int) ≤ (m : Int) := by omega
              rw [nxt_full (by rw [hLN.out]; exact hjN)] at hO
              have HO := Lib.hid hO
              have HC := Lib.hid hC
              clear hO hC hLr
              go_wp2_with fail
              go_roundw
              case rel => exact ⟨j + 1, by omega, by go_num, HO.out, HC.out⟩
              case measure => simp [intOf]; omega
        · have e : L.take j = L := List.take_of_length_le (by have := hLN.out; omega)
          rw [e] at hO
          have e2 : allP (D.take (k + 1)) = stepA L m := HN.out.trans (by rw [hLe.out])
          obtain ⟨A9, c9, rfl, hL9⟩ := hO.form
          obtain ⟨N9, hN9⟩ : ∃ N9, Hid ((stepA L m).length = N9) := ⟨_, Lib.hid rfl⟩
          have h59 : Hid (N9 ≤ 5 ^ (k + 1)) := Lib.hid (by
            rw [← hN9.out, stepA_len, hLN.out, Nat.pow_succ]
            exact Nat.mul_le_mul h5.out (by omega))
          rw [hN9.out] at hL9 ⊢
          have HL9 := Lib.hid hL9
          have HE := Lib.hid e2
          have HB := Lib.hid (hB.trans (hC.mono hB.size))
          clear hO hL9 e e2 hC
          go_wp2_with fail
          go_roundw
          case rel => exact ⟨k + 1, A9, N9, c9, _, by omega, by go_num, rfl, HL9.out, HB.out, HE, h59⟩
          case measure => simp [intOf]; omega
    · have e : D.take k = D := List.take_of_length_le (by have := HD.out; omega)
      rw [e] at hLe
      have hLN := hL.len
      have HB := Lib.hid (below_then hb0 hB)
      have HL := Lib.hid hL
      clear hL hB
      go_wp2_with fail
      go_ret
      refine ⟨⟨A, c, ?_, ?_⟩, HB.out⟩
      · rw [hLe.out, hLN]; rfl
      · rw [hLe.out, hLN]; exact HL.out
end Go.Proofs.Ytbiogldapodhmaa
