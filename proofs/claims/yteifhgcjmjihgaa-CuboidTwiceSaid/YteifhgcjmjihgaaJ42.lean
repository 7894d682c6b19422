/- CubU, CubP2, CubV, CubX, CubY, CubY2, CubZ, CubZ2, CubL2 -/
import Derived.Test.YteifhgcjmjihgaaJ2
import Derived.Test.YteifhgcjmjihgaaJ4
import Derived.Test.YteifhgcjmjihgaaJ11
import Derived.Test.YteifhgcjmjihgaaJ15
import Derived.Test.YteifhgcjmjihgaaJ17
import Derived.Test.YteifhgcjmjihgaaJ31
import Derived.Test.YteifhgcjmjihgaaJ39
import Derived.Test.YteifhgcjmjihgaaJ40
import Derived.Shelf.SlMaps.Clone
namespace Go.Proofs.Yteifhgcjmjihgaa
set_option maxRecDepth 100000
open Go.RowKit Go.Maps

theorem key_part {W : Nat} {k : List Int} (h : k.length = W) (hW : W ≤ 3) {x y z : Int} (e : Hid (kc3 k = [.int .i64 x, .int .i64 y, .int .i64 z])) : ∀ (j : Nat) (u : Value), (k.map i64v)[j]? = some u → (#[Value.int .i64 x, .int .i64 y, .int .i64 z])[0 + j]? = some u := by
  intro j u hu
  have hj : j < k.length := by have := (List.getElem?_eq_some_iff.1 hu).1; simpa using this
  rw [Nat.zero_add]
  have e2 : (#[Value.int .i64 x, .int .i64 y, .int .i64 z])[j]? = (kc3 k)[j]? := by rw [e.out]; simp
  rw [e2, ← hu, List.getElem?_map, List.getElem?_eq_getElem hj]
  match j, hj with
  | 0, hj => simp [kc3, i64v, List.getD_eq_getElem?_getD, List.getElem?_eq_getElem hj]
  | 1, hj => simp [kc3, i64v, List.getD_eq_getElem?_getD, List.getElem?_eq_getElem hj]
  | 2, hj => simp [kc3, i64v, List.getD_eq_getElem?_getD, List.getElem?_eq_getElem hj]
  | j + 3, hj => omega
theorem kc3_letters (k : List Int) : ∃ x y z, Hid (kc3 k = [.int .i64 x, .int .i64 y, .int .i64 z]) := ⟨_, _, _, Lib.hid rfl⟩
theorem take_more {α : Type} {L : List α} {k : Nat} {x : α} (h : L[k]? = some x) : L.take k ++ [x] = L.take (k + 1) := by
  rw [List.take_add_one, h]
  rfl
/-! ### Copy -/
theorem MapK.to_ {w w' : World} {W b b' : Nat} {C : Cub} (h : MapK W w b C) (hb : w'.heap[b']? = w.heap[b]?) : MapK W w' b' C := by
  obtain ⟨F, ⟨⟨D, ⟨es, clock, h1, h2, h3, h4⟩, h5⟩, n1, n2, n3, n4⟩, h6⟩ := h
  exact ⟨F, ⟨⟨D, ⟨es, clock, hb.trans h1, h2, h3, h4⟩, h5⟩, n1, n2, n3, n4⟩, h6⟩
end Go.Proofs.Yteifhgcjmjihgaa
namespace Go.Proofs.Yteifhgcjmjihgaa
set_option maxRecDepth 100000
open Go.RowKit Go.Maps

theorem OwnB.ne_blk {w : World} {base s : Nat} {v : Value} {l : List UInt8} {T : TypeId} {cs : Array Value} (h : OwnB w base 5 v l) (hb : Block w s T cs) (hT : T ≠ 5) : v.ownBlock ≠ some s := by
  intro e
  rcases h.2 with ⟨rfl, _⟩ | ⟨g, cap, cur, rfl, _, hg, _⟩
  · simp [Value.ownBlock] at e
  · have e2 : g = s := by simpa [Value.ownBlock] using e
    subst e2
    have h1 : w.heap[g]? = _ := hb
    rw [hg] at h1
    simp at h1
    exact hT h1.2.symm
theorem kept_letters2 (u : PC) : ∃ n a b c d e f, Hid (keptV u = .agg #[.int .i64 n, .int .i64 a, .int .i64 b, .int .i64 c, .int .i64 d, .int .i64 e, .int .i64 f]) ∧ Hid (n = u.1 ∧ a = u.2.1.getD 0 0 ∧ b = u.2.1.getD 1 0 ∧ c = u.2.2.1.getD 0 0 ∧ d = u.2.2.1.getD 1 0 ∧ e = u.2.2.2.getD 0 0 ∧ f = u.2.2.2.getD 1 0) :=
  ⟨_, _, _, _, _, _, _, Lib.hid rfl, Lib.hid ⟨rfl, rfl, rfl, rfl, rfl, rfl, rfl⟩⟩
/-- The bytes of a cell. -/
def encX (m : Nat) (u : PC) : List UInt8 := encI u.1 ++ (List.range m).flatMap (encM3 u.2.1 u.2.2.1 u.2.2.2)
theorem encX_len {m : Nat} {u : PC} (h : isCell m u) (hm : m ≤ 2) : (encX m u).length ≤ 70 := by
  obtain ⟨h1, h2, h3⟩ := isCell_bounds h
  unfold encX
  rw [List.length_append]
  have e1 := encI_len (x := u.1) (by omega) (by omega)
  have e2 := encMs_len (m := m) (n := u.1) (S := u.2.1) (M := u.2.2.1) (X := u.2.2.2) h m (Nat.le_refl _)
  omega
set_option maxRecDepth 100000 in
set_option maxHeartbeats 2000000 in
theorem putCell_grown {m base : Nat} {n a b c d e f : Int} {u : PC} {v : Value} {l : List UInt8} {w : World} (hu : isCell m u) (hm : m ≤ 2) (hU : Hid (n = u.1 ∧ a = u.2.1.getD 0 0 ∧ b = u.2.1.getD 1 0 ∧ c = u.2.2.1.getD 0 0 ∧ d = u.2.2.1.getD 1 0 ∧ e = u.2.2.2.getD 0 0 ∧ f = u.2.2.2.getD 1 0))
    (hO : OwnB w base 5 v l) (hb : base ≤ w.heap.size) (hl : l.length ≤ 100000000) :
    Calls Try.prog 24 #[v, .agg #[.int .i64 n, .int .i64 a, .int .i64 b, .int .i64 c, .int .i64 d, .int .i64 e, .int .i64 f], .int .i64 (m : Int)] w fun E w' => ∃ v', E = .returned v' ∧ OwnB w' base 5 v' (l ++ encX m u) ∧ Grew w v w' v' := by
  obtain ⟨b1, b2, b3⟩ := isCell_bounds hu
  have hB3 := Lib.hid b3
  have hxl := Lib.hid (encX_len hu hm)
  have hn1 : -9223372036854775808 ≤ n := by have := hU.out.1; omega
  have hn2 : n ≤ 9223372036854775807 := by have := hU.out.1; omega
  have hBl := Block.new w 63 #[.int .i64 n, .int .i64 a, .int .i64 b, .int .i64 c, .int .i64 d, .int .i64 e, .int .i64 f]
  have hO1 := hO.alloc (.cells #[.int .i64 n, .int .i64 a, .int .i64 b, .int .i64 c, .int .i64 d, .int .i64 e, .int .i64 f] 63)
  have hB1 := (Grew.refl w v).alloc (.cells #[.int .i64 n, .int .i64 a, .int .i64 b, .int .i64 c, .int .i64 d, .int .i64 e, .int .i64 f] 63)
  have hkt : 63 ≠ 5 := by decide
  have hit : 3 ≠ 5 := by decide
  clear hO b1 b2 b3
  go_enter Try.func24, Try.ntmps24
  go_upto_region 1 with fail
  generalize w.alloc (.cells #[.int .i64 n, .int .i64 a, .int .i64 b, .int .i64 c, .int .i64 d, .int .i64 e, .int .i64 f] 63) = w1 at hBl hO1 hB1 ⊢
  obtain ⟨g, hg⟩ : ∃ g, w.heap.size = g := ⟨_, rfl⟩
  rw [hg] at hBl hb ⊢
  clear hg
  have c0 : w1.cell? ⟨g, 0, none⟩ = some (.int .i64 n) := hBl.cell 0
  have hs1 : base ≤ w1.heap.size := Nat.le_of_lt (Nat.lt_of_le_of_lt hb hBl.lt)
  go_wp2_with fail
  refine (putInt_own v l n hn1 hn2 w1 base hO1 hs1 (by omega)).mono ?_
  rintro E w2 ⟨v2, rfl, hO2, hG2⟩
  have hBl2 := hBl.grown hG2.1 (hO1.ne_blk hBl hkt)
  have hB2 := hB1.trans hG2
  have hs2 : base ≤ w2.heap.size := Nat.le_trans hs1 hG2.1.size
  have HL0 : Hid (l ++ enc (zig n) = l ++ (encI u.1 ++ (List.range 0).flatMap (encM3 u.2.1 u.2.2.1 u.2.2.2))) := Lib.hid (by rw [hU.out.1]; simp [encI])
  rw [HL0.out] at hO2
  clear hO1 hB1 hG2 hBl c0 hs1
  go_wp2_with fail
  go_loopw [0, 15] (fun v' i wr => ∃ k : Nat, k ≤ m ∧ i = .int .i64 k ∧ OwnB wr base 5 v' (l ++ (encI u.1 ++ (List.range k).flatMap (encM3 u.2.1 u.2.2.1 u.2.2.2))) ∧ Block wr g 63 #[.int .i64 n, .int .i64 a, .int .i64 b, .int .i64 c, .int .i64 d, .int .i64 e, .int .i64 f] ∧ Grew w v wr v' ∧ base ≤ wr.heap.size) (fun _ i _ => m - (intOf i).toNat)
  case atStart => exact ⟨0, Nat.zero_le _, rfl, hO2, hBl2, hB2, hs2⟩
  case round =>
    obtain ⟨k, hk, rfl, hO, hBk, hB, hs⟩ := hrel
    by_cases hlt : k < m
    · have i0 : (0 : Int) ≤ (k : Int) := by omega
      have i1 : (k : Int) < (m : Int) := by omega
      have i2 : (k : Int) < 2 := by omega
      obtain ⟨s, t, x, hst⟩ : ∃ s t x, Hid (u.2.1.getD k 0 = s ∧ u.2.2.1.getD k 0 = t ∧ u.2.2.2.getD k 0 = x) := ⟨_, _, _, Lib.hid ⟨rfl, rfl, rfl⟩⟩
      have e1 : wr.cell? ⟨g, 1 + k, none⟩ = some (.int .i64 s) := by
        rw [hBk.cell, ← hst.out.1]
        have : k = 0 ∨ k = 1 := by omega
        rcases this with rfl | rfl
        · rw [← hU.out.2.1]; rfl
        · rw [← hU.out.2.2.1]; rfl
      have e2 : wr.cell? ⟨g, 3 + k, none⟩ = some (.int .i64 t) := by
        rw [hBk.cell, ← hst.out.2.1]
        have : k = 0 ∨ k = 1 := by omega
        rcases this with rfl | rfl
        · rw [← hU.out.2.2.2.1]; rfl
        · rw [← hU.out.2.2.2.2.1]; rfl
      have e3 : wr.cell? ⟨g, 5 + k, none⟩ = some (.int .i64 x) := by
        rw [hBk.cell, ← hst.out.2.2]
        have : k = 0 ∨ k = 1 := by omega
        rcases this with rfl | rfl
        · rw [← hU.out.2.2.2.2.2.1]; rfl
        · rw [← hU.out.2.2.2.2.2.2]; rfl
      go_wp2_with fail
      have hq := hB3.out k hlt
      rw [hst.out.1, hst.out.2.1, hst.out.2.2] at hq
      have hq : (-9223372036854775808 ≤ s ∧ s ≤ 9223372036854775807) ∧ (-9223372036854775808 ≤ t ∧ t ≤ 9223372036854775807) ∧ (-9223372036854775808 ≤ x ∧ x ≤ 9223372036854775807) := by
        unfold inS inV at hq
        omega
      have hX5 := (Block.new wr 3 #[.int .i64 s, .int .i64 t, .int .i64 x]).drewN 1
      have hO5 := (hO.alloc (.cells #[.int .i64 s, .int .i64 t, .int .i64 x] 3)).drewN 1
      have hK5 := (hBk.alloc (.cells #[.int .i64 s, .int .i64 t, .int .i64 x] 3)).drewN 1
      have hB5 := (hB.alloc (.cells #[.int .i64 s, .int .i64 t, .int .i64 x] 3)).drewN 1
      have hs5 : base ≤ (wr.alloc (.cells #[.int .i64 s, .int .i64 t, .int .i64 x] 3)).drew.heap.size := Nat.le_trans hs (by show _ ≤ (wr.alloc _).heap.size; rw [World.size_alloc]; omega)
      have HLe : Hid ((encI u.1 ++ (List.range (k + 1)).flatMap (encM3 u.2.1 u.2.2.1 u.2.2.2)).length ≤ 70) := Lib.hid (by
        have h1 := encX_len hu hm
        have h2 : (encX (k + 1) u).length ≤ (encX m u).length := by
          unfold encX
          obtain ⟨K, hK⟩ : ∃ K, k + 1 = K := ⟨_, rfl⟩
          rw [hK]
          obtain ⟨r, rfl⟩ : ∃ r, m = K + r := ⟨m - K, by omega⟩
          rw [List.range_add, List.flatMap_append]
          simp only [List.length_append]
          omega
        exact Nat.le_trans h2 h1)
      have HSt : Hid ((List.range (k + 1)).flatMap (encM3 u.2.1 u.2.2.1 u.2.2.2) = (List.range k).flatMap (encM3 u.2.1 u.2.2.1 u.2.2.2) ++ [s, t, x].flatMap encI) := Lib.hid (by
        rw [range_step]
        unfold encM3
        rw [hst.out.1, hst.out.2.1, hst.out.2.2]
        simp)
      obtain ⟨Pk, hPk⟩ : ∃ Pk, Hid (l ++ (encI u.1 ++ (List.range k).flatMap (encM3 u.2.1 u.2.2.1 u.2.2.2)) = Pk) := ⟨_, Lib.hid rfl⟩
      have HPl : Hid (∀ j, j ≤ 3 → (Pk ++ ([s, t, x].take j).flatMap encI).length ≤ 100000100) := Lib.hid fun j hj => by
        have h1 := HLe.out
        rw [HSt.out] at h1
        rw [← hPk.out]
        have h2 : (([s, t, x].take j).flatMap encI).length ≤ ([s, t, x].flatMap encI).length := by
          rw [← List.take_append_drop j [s, t, x], List.flatMap_append]
          simp only [List.take_append_drop, List.length_append]
          omega
        simp only [List.length_append] at h1 ⊢
        omega
      rw [hPk.out] at hO5
      clear hO hBk hB
      go_region
      all_goals
        have hX5 : Block (wr.alloc (.cells #[.int .i64 s, .int .i64 t, .int .i64 x] 3)).drew wr.heap.size 3 #[.int .i64 s, .int .i64 t, .int .i64 x] := hX5
        have hO5 : OwnB (wr.alloc (.cells #[.int .i64 s, .int .i64 t, .int .i64 x] 3)).drew base 5 u0 (Pk) := hO5
        have hK5 : Block (wr.alloc (.cells #[.int .i64 s, .int .i64 t, .int .i64 x] 3)).drew g 63 #[.int .i64 n, .int .i64 a, .int .i64 b, .int .i64 c, .int .i64 d, .int .i64 e, .int .i64 f] := hK5
        have hB5 : Grew w v (wr.alloc (.cells #[.int .i64 s, .int .i64 t, .int .i64 x] 3)).drew u0 := hB5
        generalize (wr.alloc (.cells #[.int .i64 s, .int .i64 t, .int .i64 x] 3)).drew = w5 at hX5 hO5 hK5 hB5 hs5 ⊢
        obtain ⟨gl, hgl⟩ : ∃ gl, wr.heap.size = gl := ⟨_, rfl⟩
        rw [hgl] at hX5 ⊢
        clear hgl e1 e2 e3
        go_wp2_with fail
        go_loopw [0, 32] (fun v' i wi => ∃ j : Nat, j ≤ 3 ∧ i = .int .i64 j ∧ OwnB wi base 5 v' (Pk ++ ([s, t, x].take j).flatMap encI) ∧ Block wi gl 3 #[.int .i64 s, .int .i64 t, .int .i64 x] ∧ Block wi g 63 #[.int .i64 n, .int .i64 a, .int .i64 b, .int .i64 c, .int .i64 d, .int .i64 e, .int .i64 f] ∧ Grew w v wi v' ∧ base ≤ wi.heap.size) (fun _ i _ => 3 - (intOf i).toNat)
        case atStart => exact ⟨0, by decide, rfl, by simpa using hO5, hX5, hK5, hB5, hs5⟩
        case round =>
          obtain ⟨j, hj, rfl, hOi, hXi, hKi, hBi, hsi⟩ := hrel
          by_cases hj3 : j < 3
          · have j0 : (0 : Int) ≤ (j : Int) := by omega
            have j1 : (j : Int) < 3 := by omega
            obtain ⟨q, hqj⟩ : ∃ q, Hid ([s, t, x][j]? = some q) := ⟨_, Lib.hid (List.getElem?_eq_getElem (by simpa using hj3))⟩
            have eq : wr.cell? ⟨gl, j, none⟩ = some (.int .i64 q) := by
              rw [hXi.cell]
              have h1 := hqj.out
              have : j = 0 ∨ j = 1 ∨ j = 2 := by omega
              rcases this with rfl | rfl | rfl
              · simp at h1; rw [← h1]; rfl
              · simp at h1; rw [← h1]; rfl
              · simp at h1; rw [← h1]; rfl
            have hqb : -9223372036854775808 ≤ q ∧ q ≤ 9223372036854775807 := by
              have h1 := List.mem_of_getElem? hqj.out
              simp at h1
              rcases h1 with rfl | rfl | rfl
              · exact hq.1
              · exact hq.2.1
              · exact hq.2.2
            have HN : Hid (([s, t, x].take (j + 1)).flatMap encI = ([s, t, x].take j).flatMap encI ++ enc (zig q)) := Lib.hid (by
              rw [← take_more hqj.out, List.flatMap_append]
              simp [encI])
            have HPI := Lib.hid (putInt_own u0 _ q hqb.1 hqb.2 wr base hOi hsi (by have := HPl.out j hj; omega))
            have HZ := Lib.hid (And.intro hOi (And.intro hXi (And.intro hKi hBi)))
            clear hOi hXi hKi hBi
            go_wp2_with fail
            refine HPI.out.mono ?_
            rintro E w6 ⟨v6, rfl, hO6, hG6⟩
            obtain ⟨hOi, hXi, hKi, hBi⟩ := HZ.out
            have hF := Lib.hid (show OwnB w6 base 5 v6 (Pk ++ ([s, t, x].take (j + 1)).flatMap encI) ∧ Block w6 gl 3 #[.int .i64 s, .int .i64 t, .int .i64 x] ∧ Block w6 g 63 #[.int .i64 n, .int .i64 a, .int .i64 b, .int .i64 c, .int .i64 d, .int .i64 e, .int .i64 f] ∧ Grew w v w6 v6 ∧ base ≤ w6.heap.size from
              ⟨by rw [HN.out, ← List.append_assoc]; exact hO6, hXi.grown hG6.1 (hOi.ne_blk hXi hit), hKi.grown hG6.1 (hOi.ne_blk hKi hkt), hBi.trans hG6, Nat.le_trans hsi hG6.1.size⟩)
            clear hOi hXi hKi hBi hO6 hG6 HZ HPI
            go_wp2_with fail
            go_roundw
            case rel => exact ⟨j + 1, by omega, by go_num, hF.out⟩
            case measure => simp [intOf]; omega
          · obtain rfl : j = 3 := by omega
            have hF := Lib.hid (show OwnB wr base 5 u0 (l ++ (encI u.1 ++ (List.range (k + 1)).flatMap (encM3 u.2.1 u.2.2.1 u.2.2.2))) ∧ Block wr g 63 #[.int .i64 n, .int .i64 a, .int .i64 b, .int .i64 c, .int .i64 d, .int .i64 e, .int .i64 f] ∧ Grew w v wr u0 ∧ base ≤ wr.heap.size from
              ⟨by
                have h1 := hOi
                rw [← hPk.out] at h1
                rw [HSt.out]
                simpa using h1, hKi, hBi, hsi⟩)
            clear hOi hXi hKi hBi
            go_wp2_with fail
            go_roundw
            case rel => exact ⟨k + 1, by omega, by go_num, hF.out⟩
            case measure => simp [intOf]; omega
    · obtain rfl : k = m := by omega
      have hF := Lib.hid (And.intro hO hB)
      clear hO hB hBk
      go_wp2_with fail
      go_ret
      exact ⟨u0, rfl, hF.out.1, hF.out.2⟩
end Go.Proofs.Yteifhgcjmjihgaa
namespace Go.Proofs.Yteifhgcjmjihgaa
set_option maxRecDepth 100000
open Go.RowKit Go.Maps

theorem encC_step {m : Nat} {C : Cub} {i : Nat} {k : List Int} {u : PC} (h : C[i]? = some (k, u)) : (C.take (i + 1)).flatMap (encOne m) = (C.take i).flatMap (encOne m) ++ (k.flatMap encI ++ encX m u) := by
  rw [← take_more h, List.flatMap_append]
  congr 1
  obtain ⟨n, S, M, X⟩ := u
  simp only [List.flatMap_cons, List.flatMap_nil, List.append_nil]
  rw [encOne_is]
  rfl
/-- A row's own block is none of the keys'. -/
def NotIn (v : Value) (a b : Nat) : Prop := ∀ q, v.ownBlock = some q → q < a ∨ b ≤ q
theorem NotIn.grew {w w' : World} {v v' : Value} {a b : Nat} (h : NotIn v a b) (hG : Grew w v w' v') (hb : b ≤ w.heap.size) : NotIn v' a b := fun q hq => by
  rcases hG.2 q hq with h1 | h1
  · exact h q h1
  · exact .inr (Nat.le_trans hb h1)
theorem row_grew {w w' : World} {v v' : Value} {a b n c : Nat} {A : Option Addr} {J : List (List Int)} (h : Row elK 3 w (fun x => a ≤ x ∧ x < b) A n c J) (hN : NotIn v a b) (hG : Grew w v w' v') : Row elK 3 w' (fun x => a ≤ x ∧ x < b) A n c J :=
  h.mv elK_ok (Mv.grown hG.1 fun x hx e => by rcases hN x e with h1 | h1 <;> omega)
set_option maxRecDepth 100000 in
set_option maxHeartbeats 4000000 in
theorem put_any {w : World} {g b W m : Nat} {C : Cub} (h : Cb w g b W m C) :
    Calls Try.prog 10 #[.pointer (some ⟨g, 0, none⟩), .slice none 0 0] w fun e w' => ∃ v, e = .returned v ∧ OwnB w' w.heap.size 5 v (encC m C) ∧ Below w.heap.size w w' := by
  have H0 := Lib.hid h
  have hlen := h.len
  have hw3 := h.w3
  have hw1 := h.w1
  have hm2 := h.m2
  obtain ⟨J, hJ⟩ : ∃ J, Hid (C.map (·.1) = J) := ⟨_, Lib.hid rfl⟩
  obtain ⟨n, hn⟩ : ∃ n, Hid (C.length = n) := ⟨_, Lib.hid rfl⟩
  have hJn : Hid (J.length = n) := Lib.hid (by rw [← hJ.out, List.length_map, hn.out])
  rw [hn.out] at hlen
  have hkt : 57 ≠ 5 := by decide
  clear h
  go_enter Try.func10, Try.ntmps10
  go_wp2_with fail
  refine (clone_any none 0 0 [] w ⟨rfl, Nat.le_refl _, Nat.zero_le _, fun _ => rfl, Has.nil_⟩ (by decide)).mono ?_
  rintro e w1 ⟨⟨v1, rfl, hO1⟩, hb1⟩
  have hL1 := Lib.hid (cubLen_any (H0.out.belowS hb1))
  have hz1 := hb1.size
  clear hJ
  go_wp2_with fail
  refine hL1.out.mono ?_
  rintro e w1' ⟨rfl, rfl⟩
  rw [hn.out]
  go_wp2_with fail
  refine (putInt_own v1 [] (n : Int) (by omega) (by omega) w1 w.heap.size hO1 hz1 (by simp)).mono ?_
  rintro e w2 ⟨v2, rfl, hO2, hG2⟩
  have hb2 := hb1.trans (hG2.below_ hz1 (fun k hk => (hO1.lt k hk).1))
  have hE2 : Hid (([] : List UInt8) ++ enc (zig (n : Int)) = encI (n : Int)) := Lib.hid rfl
  rw [hE2.out] at hO2
  have hS := Lib.hid (sorted_any (H0.out.belowS hb2))
  obtain ⟨J, hJ⟩ : ∃ J, Hid (C.map (·.1) = J) := ⟨_, Lib.hid rfl⟩
  have hJn : Hid (J.length = n) := Lib.hid (by rw [← hJ.out, List.length_map, hn.out])
  rw [hn.out, hJ.out] at hS
  have hz2 := hb2.size
  have hlt2 := fun q hq => (hO2.lt q hq).2
  clear hO1 hb1 hL1 hG2 hz1
  go_wp2_with fail
  refine hS.out.mono ?_
  rintro e w3 ⟨⟨A, c, rfl, hR⟩, hb3⟩
  have hO3 := hO2.below hb3 (Nat.le_refl _)
  have hB3 := below_then hb2 hb3
  have hs3 := hB3.size
  have hR3 : Row elK 3 w3 (fun x => w2.heap.size ≤ x ∧ x < w3.heap.size) A n c J := hR.mv elK_ok (fun x hx hl => ⟨rfl, hx, hl⟩)
  have hN3 : NotIn v2 w2.heap.size w3.heap.size := fun q hq => .inl (hlt2 q hq)
  have H3 := Lib.hid (And.intro hO3 (And.intro hB3 (And.intro hR3 hN3)))
  clear hO2 hb2 hb3 hR hS hlt2 hO3 hB3 hR3 hN3
  go_wp2_with fail
  go_loopw [5, 18] (fun v i wr => ∃ k : Nat, k ≤ n ∧ i = .int .i64 k ∧ OwnB wr w.heap.size 5 v (encI (n : Int) ++ (C.take k).flatMap (encOne m)) ∧ Below w.heap.size w wr ∧ Row elK 3 wr (fun x => w2.heap.size ≤ x ∧ x < w3.heap.size) A n c J ∧ NotIn v w2.heap.size w3.heap.size ∧ w3.heap.size ≤ wr.heap.size) (fun _ i _ => n - (intOf i).toNat)
  case atStart => exact ⟨0, Nat.zero_le _, rfl, by simpa using H3.out.1, H3.out.2.1, H3.out.2.2.1, H3.out.2.2.2, Nat.le_refl _⟩
  case round =>
    obtain ⟨k, hk, rfl, hO, hB, hR, hN, hs⟩ := hrel
    by_cases hlt : k < n
    · obtain ⟨b', o, us, x, rfl, _, hbl, _, hcell, hx, hxe⟩ := hR.at_ hlt
      have hx : us = kc3 x := hx
      obtain ⟨x0, x1, x2, hkc⟩ := kc3_letters x
      rw [hx, hkc.out] at hcell
      have g0 : wr.cell? ⟨b', o + k * 3, none⟩ = some (.int .i64 x0) := hcell 0 _ rfl
      have g1 : wr.cell? ⟨b', o + k * 3 + 1, none⟩ = some (.int .i64 x1) := hcell 1 _ rfl
      have g2 : wr.cell? ⟨b', o + k * 3 + 2, none⟩ = some (.int .i64 x2) := hcell 2 _ rfl
      have i0 : (0 : Int) ≤ (k : Int) := by omega
      have i1 : (k : Int) < (n : Int) := by omega
      have iW0 : (0 : Int) ≤ (W : Int) := by omega
      have iW3 : (W : Int) ≤ 3 := by omega
      obtain ⟨u, hu⟩ : ∃ u, Hid (C[k]? = some (x, u)) := by
        have h1 := hxe.out
        rw [← hJ.out, List.getElem?_map] at h1
        rcases hc : C[k]? with _ | ⟨y, u⟩
        · rw [hc] at h1; cases h1
        · rw [hc] at h1
          injection h1 with h1
          simp at h1
          exact ⟨u, Lib.hid (by rw [h1])⟩
      have hum := List.mem_of_getElem? hu.out
      have hxk := H0.out.ok.key _ hum
      have hxc := Lib.hid (H0.out.ok.cell _ hum)
      have hxl : x.length = W := hxk.1
      have HXK := Lib.hid hxk
      have hgu := Lib.hid (getK_of_mem H0.out.ok.ris hum)
      have hbx := below_a1 wr (.cells #[.int .i64 x0, .int .i64 x1, .int .i64 x2] 57)
      have hBl := Block.new wr 57 #[.int .i64 x0, .int .i64 x1, .int .i64 x2]
      have hO1 := hO.alloc (.cells #[.int .i64 x0, .int .i64 x1, .int .i64 x2] 57)
      have hB1 := below_then hB hbx
      have hR1 := hR.mv elK_ok (Mv.alloc wr (.cells #[.int .i64 x0, .int .i64 x1, .int .i64 x2] 57) _)
      have hs1 : w3.heap.size ≤ (wr.alloc (.cells #[.int .i64 x0, .int .i64 x1, .int .i64 x2] 57)).heap.size := by rw [World.size_alloc]; omega
      have hHI := Lib.hid (fun (y : World) (hy : Block y wr.heap.size 57 #[.int .i64 x0, .int .i64 x1, .int .i64 x2]) => HasI.part hy 0 W 3 x hxl hw3 (by decide) (key_part hxl hw3 hkc))
      have c0 := (H0.out.belowS hB1).c0
      have hsz9 : wr.heap.size < (wr.alloc (.cells #[.int .i64 x0, .int .i64 x1, .int .i64 x2] 57)).heap.size := by rw [World.size_alloc]; omega
      have HP : Hid ((encI (n : Int) ++ (C.take k).flatMap (encOne m)).length ≤ 7000000) := Lib.hid (by
        have h1 := encI_len (x := (n : Int)) (by omega) (by omega)
        have h2 := encTake_len (i := k) H0.out.ok hw3 hm2
        have h3 := hn.out
        rw [List.length_append]
        omega)
      clear hcell hx hO hB hR hxk hum hxe hbx
      go_wp2_with fail
      clear g0 g1 g2
      generalize wr.alloc (.cells #[.int .i64 x0, .int .i64 x1, .int .i64 x2] 57) = W3 at hO1 hB1 hR1 hs1 hBl c0 hsz9 ⊢
      obtain ⟨kb, hkb⟩ : ∃ kb, wr.heap.size = kb := ⟨_, rfl⟩
      rw [hkb] at hBl hsz9 hs hHI ⊢
      clear hkb
      have hz3 : w.heap.size ≤ W3.heap.size := hB1.size
      obtain ⟨Pk, hPk⟩ : ∃ Pk, Hid (encI (n : Int) ++ (C.take k).flatMap (encOne m) = Pk) := ⟨_, Lib.hid rfl⟩
      rw [hPk.out] at hO1 HP
      have HPl : Hid (∀ j, (Pk ++ (x.take j).flatMap encI).length ≤ 7000100) := Lib.hid fun j => by
        have h1 := code_len HXK.out
        have h2 : ((x.take j).flatMap encI).length ≤ (x.flatMap encI).length := by
          have h3 : (x.flatMap encI).length = ((x.take j).flatMap encI ++ (x.drop j).flatMap encI).length := by rw [← List.flatMap_append, List.take_append_drop]
          rw [h3, List.length_append]
          omega
        have h3 := HP.out
        rw [List.length_append]
        omega
      have H5 := Lib.hid (And.intro hO1 (And.intro hB1 (And.intro hR1 hBl)))
      clear hO1 hB1 hR1 hBl c0
      go_loopw [5, 28] (fun v' i wi => ∃ j : Nat, j ≤ W ∧ i = .int .i64 j ∧ OwnB wi w.heap.size 5 v' (Pk ++ (x.take j).flatMap encI) ∧ Below w.heap.size w wi ∧ Row elK 3 wi (fun x => w2.heap.size ≤ x ∧ x < w3.heap.size) (some ⟨b', o, none⟩) n c J ∧ Block wi kb 57 #[.int .i64 x0, .int .i64 x1, .int .i64 x2] ∧ NotIn v' w2.heap.size w3.heap.size ∧ W3.heap.size ≤ wi.heap.size) (fun _ i _ => W - (intOf i).toNat)
      case atStart => exact ⟨0, Nat.zero_le _, rfl, by simpa using H5.out.1, H5.out.2.1, H5.out.2.2.1, H5.out.2.2.2, hN, Nat.le_refl _⟩
      case round =>
        obtain ⟨j, hj, rfl, hOi, hBi, hRi, hKi, hNi, hsi⟩ := hrel
        by_cases hjW : j < W
        · have j0 : (0 : Int) ≤ (j : Int) := by omega
          have j1 : (j : Int) < (W : Int) := by omega
          obtain ⟨q, hq⟩ : ∃ q, Hid (x[j]? = some q) := ⟨_, Lib.hid (List.getElem?_eq_getElem (by omega))⟩
          have eq : wr.cell? ⟨kb, j, none⟩ = some (.int .i64 q) := by
            obtain ⟨b9, o9, y9, e9, _, h9, h10⟩ := (hHI.out wr hKi).at_ (k := j) hjW
            injection e9 with e9
            injection e9 with e9a e9b
            subst e9a e9b
            rw [Nat.zero_add] at h9
            rw [h9, h10.out, List.getD_eq_getElem?_getD, hq.out]
            rfl
          have hqb := HXK.out.2 q (List.mem_of_getElem? hq.out)
          have HN : Hid ((x.take (j + 1)).flatMap encI = (x.take j).flatMap encI ++ enc (zig q)) := Lib.hid (by
            rw [← take_more hq.out, List.flatMap_append]
            simp [encI])
          have hz9 := hBi.size
          have HPI := Lib.hid (putInt_own u5 _ q (by omega) (by omega) wr w.heap.size hOi hz9 (by have := HPl.out j; omega))
          have HZ := Lib.hid (And.intro hOi (And.intro hBi (And.intro hRi (And.intro hKi hNi))))
          clear hOi hBi hRi hKi hNi
          go_wp2_with fail
          refine HPI.out.mono ?_
          rintro E w6 ⟨v6, rfl, hO6, hG6⟩
          obtain ⟨hOi, hBi, hRi, hKi, hNi⟩ := HZ.out
          have hF := Lib.hid (show OwnB w6 w.heap.size 5 v6 (Pk ++ (x.take (j + 1)).flatMap encI) ∧ Below w.heap.size w w6 ∧ Row elK 3 w6 (fun x => w2.heap.size ≤ x ∧ x < w3.heap.size) (some ⟨b', o, none⟩) n c J ∧ Block w6 kb 57 #[.int .i64 x0, .int .i64 x1, .int .i64 x2] ∧ NotIn v6 w2.heap.size w3.heap.size ∧ W3.heap.size ≤ w6.heap.size from
            ⟨by rw [HN.out, ← List.append_assoc]; exact hO6, hBi.trans (hG6.below_ hz9 (fun k hk => (hOi.lt k hk).1)), row_grew hRi hNi hG6, hKi.grown hG6.1 (hOi.ne_blk hKi hkt), hNi.grew hG6 (Nat.le_trans hs1 hsi), Nat.le_trans hsi hG6.1.size⟩)
          clear hOi hBi hRi hKi hNi hO6 hG6 HZ HPI eq
          go_wp2_with fail
          go_roundw
          case rel => exact ⟨j + 1, by omega, by go_num, hF.out⟩
          case measure => simp [intOf]; omega
        · obtain rfl : W = j := by omega
          have hC := H0.out.belowS hBi
          have c1 := hC.c1
          have c2 := hC.c2
          have k0 : wr.cell? ⟨kb, 0, none⟩ = some (.int .i64 x0) := hKi.cell 0
          have k1 : wr.cell? ⟨kb, 1, none⟩ = some (.int .i64 x1) := hKi.cell 1
          have k2 : wr.cell? ⟨kb, 2, none⟩ = some (.int .i64 x2) := hKi.cell 2
          obtain ⟨l0, l1, l2, l3, l4, l5, l6, hV, hU⟩ := kept_letters2 u
          have hkv : Hid (kv3 x = .agg #[.int .i64 x0, .int .i64 x1, .int .i64 x2]) := Lib.hid (by rw [kv3_is, hkc.out])
          have hLk := ((hC.drewN 1).map.look hw3 (t := 53) Try.underlying53 (kept_zero _) HXK.out).2
          rw [hgu.out, hkv.out] at hLk
          simp only [Option.map_some, Option.getD_some, hV.out] at hLk
          have hLk : (Instr.lookup 53 (.map (some b)) (.agg #[.int .i64 x0, .int .i64 x1, .int .i64 x2]) false).run Try.prog wr.drew = .ok (.agg #[.int .i64 l0, .int .i64 l1, .int .i64 l2, .int .i64 l3, .int .i64 l4, .int .i64 l5, .int .i64 l6]) wr.drew := hLk
          have hz9 : w.heap.size ≤ wr.drew.heap.size := hBi.size
          have hOd : OwnB wr.drew w.heap.size 5 u5 (Pk ++ (x.take W).flatMap encI) := hOi.drewN 1
          have hPC := Lib.hid (putCell_grown hxc.out hm2 hU hOd hz9 (by have := HPl.out W; omega))
          have KS : Hid (∀ (y : World) (v9 : Value), Grew wr.drew u5 y v9 → y.cell? ⟨g, 2, none⟩ = some (.map (some b)) ∧ y.cell? ⟨g, 1, none⟩ = some (.int .i64 (m : Int)) ∧ y.cell? ⟨kb, 0, none⟩ = some (.int .i64 x0) ∧ y.cell? ⟨kb, 1, none⟩ = some (.int .i64 x1) ∧ y.cell? ⟨kb, 2, none⟩ = some (.int .i64 x2)) := Lib.hid fun y v9 hG => by
            have hG' : Grew wr u5 y v9 := ⟨⟨hG.1.os, hG.1.tape, hG.1.output, hG.1.size, hG.1.block⟩, hG.2⟩
            have h1 := H0.out.belowS (hBi.trans (hG'.below_ hz9 (fun k hk => (hOi.lt k hk).1)))
            have h2 := hKi.grown hG'.1 (hOi.ne_blk hKi hkt)
            exact ⟨h1.c2, h1.c1, h2.cell 0, h2.cell 1, h2.cell 2⟩
          have HZ := Lib.hid (And.intro hOi (And.intro hBi (And.intro hRi hNi)))
          clear hOi hBi hRi hKi hNi hOd hC
          go_wp2_with fail
          go_region_held3 (fun w' => w'.cell? ⟨g, 2, none⟩ = some (.map (some b)) ∧ w'.cell? ⟨g, 1, none⟩ = some (.int .i64 (m : Int)) ∧ w'.cell? ⟨kb, 0, none⟩ = some (.int .i64 x0) ∧ w'.cell? ⟨kb, 1, none⟩ = some (.int .i64 x1) ∧ w'.cell? ⟨kb, 2, none⟩ = some (.int .i64 x2))
            (first
              | go_keep
              | exact KS.out _ _ hG9)
            (first
              | (go_at_call 24; refine hPC.out.mono ?_; rintro e w9 ⟨v9, rfl, hO9, hG9⟩))
          obtain ⟨hOi, hBi, hRi, hNi⟩ := HZ.out
          have hG9' : Grew wr u5 w9 v9 := ⟨⟨hG9.1.os, hG9.1.tape, hG9.1.output, hG9.1.size, hG9.1.block⟩, hG9.2⟩
          have hF := Lib.hid (show OwnB w9 w.heap.size 5 v9 (encI (n : Int) ++ (C.take (k + 1)).flatMap (encOne m)) ∧ Below w.heap.size w w9 ∧ Row elK 3 w9 (fun x => w2.heap.size ≤ x ∧ x < w3.heap.size) (some ⟨b', o, none⟩) n c J ∧ NotIn v9 w2.heap.size w3.heap.size ∧ w3.heap.size ≤ w9.heap.size from
            ⟨by
              rw [encC_step hu.out, ← List.append_assoc, hPk.out, ← List.append_assoc]
              have h1 := hO9
              rw [List.take_of_length_le (by omega)] at h1
              exact h1, hBi.trans (hG9'.below_ hz9 (fun k hk => (hOi.lt k hk).1)), row_grew hRi hNi hG9', hNi.grew hG9' (Nat.le_trans hs1 hsi), Nat.le_trans hs1 (Nat.le_trans hsi hG9'.1.size)⟩)
          clear hOi hBi hRi hNi hO9 hG9 hG9' HZ hPC c1 c2 k0 k1 k2 hLk
          go_wp2_with fail
          go_roundw
          case rel => exact ⟨k + 1, by omega, by go_num, hF.out⟩
          case measure => simp [intOf]; omega
    · obtain rfl : k = n := by omega
      have hF := Lib.hid (show OwnB wr w.heap.size 5 u5 (encC m C) ∧ Below w.heap.size w wr from ⟨by
        unfold encC
        rw [hn.out]
        have h1 := hO
        rw [List.take_of_length_le (by have := hn.out; omega)] at h1
        exact h1, hB⟩)
      clear hO hB hR hN
      go_wp2_with fail
      go_ret
      exact ⟨u5, rfl, hF.out.1, hF.out.2⟩
end Go.Proofs.Yteifhgcjmjihgaa
namespace Go.Proofs.Yteifhgcjmjihgaa
set_option maxRecDepth 100000
open Go.RowKit Go.Maps

/-! ### plain -/
def zipU (us : List (List Int)) (k : List Int) : List Int := List.zipWith (fun u c => u.getD c.toNat 0) us k
def okZ : List (List Int) → List Int → Prop
  | u :: us, c :: k => c < (u.length : Int) ∧ okZ us k
  | _, _ => True
theorem zipU_len {us : List (List Int)} {k : List Int} (h : us.length = k.length) : (zipU us k).length = k.length := by simp [zipU, h]
theorem okZ_at : ∀ {us : List (List Int)} {k : List Int}, us.length = k.length → (okZ us k ↔ ∀ i, i < k.length → k.getD i 0 < ((us.getD i []).length : Int))
  | [], [], _ => by simp [okZ]
  | [], _ :: _, h => by simp at h
  | _ :: _, [], h => by simp at h
  | u :: us, c :: k, h => by
    rw [okZ, okZ_at (us := us) (k := k) (by simpa using h)]
    constructor
    · rintro ⟨h1, h2⟩ i hi
      cases i with
      | zero => exact h1
      | succ i => exact h2 i (by simpa using hi)
    · intro h1
      exact ⟨h1 0 (by simp), fun i hi => h1 (i + 1) (by simpa using hi)⟩
theorem upK_yes : ∀ {us : List (List Int)} {k : List Int}, us.length = k.length → okZ us k → (∀ c ∈ zipU us k, 0 ≤ c ∧ c ≤ 40) → upK us k = some (zipU us k)
  | [], [], _, _, _ => rfl
  | [], _ :: _, h, _, _ => by simp at h
  | _ :: _, [], h, _, _ => by simp at h
  | u :: us, c :: k, h, h1, h2 => by
    have h3 := h2 (u.getD c.toNat 0) (by simp [zipU])
    rw [upK, if_pos ⟨h1.1, h3⟩, upK_yes (by simpa using h) h1.2 (fun x hx => h2 x (by simp only [zipU, List.zipWith_cons_cons, List.mem_cons]; exact .inr hx))]
    rfl
theorem upK_back : ∀ {us : List (List Int)} {k j : List Int}, us.length = k.length → upK us k = some j → okZ us k ∧ j = zipU us k ∧ ∀ c ∈ zipU us k, 0 ≤ c ∧ c ≤ 40
  | [], [], j, _, h => by
    rw [upK] at h
    injection h with h
    subst h
    exact ⟨trivial, rfl, by simp [zipU]⟩
  | [], _ :: _, _, h, _ => by simp at h
  | _ :: _, [], _, h, _ => by simp at h
  | u :: us, c :: k, j, h, h1 => by
    rw [upK] at h1
    split at h1
    · rename_i hc
      rcases h2 : upK us k with _ | j'
      · rw [h2] at h1; cases h1
      · rw [h2] at h1
        simp at h1
        obtain ⟨g1, g2, g3⟩ := upK_back (by simpa using h) h2
        refine ⟨⟨hc.1, g1⟩, by rw [← h1, g2]; simp [zipU], fun x hx => ?_⟩
        simp only [zipU, List.zipWith_cons_cons, List.mem_cons] at hx
        rcases hx with hx | hx
        · rw [hx]; exact hc.2
        · exact g3 x hx
    · cases h1
theorem zipU_at {us : List (List Int)} {k u : List Int} {i : Nat} {c : Int} (hk : k[i]? = some c) (hu : us[i]? = some u) : (zipU us k)[i]? = some (u.getD c.toNat 0) := by
  unfold zipU
  rw [List.getElem?_zipWith, hu, hk]
/-- A row of noughts that is filled from the front. -/
def fillZ (Z : List Int) (W i : Nat) : List Int := Z.take i ++ List.replicate (W - i) 0
theorem fillZ_len {Z : List Int} {W i : Nat} (h : Z.length = W) (hi : i ≤ W) : (fillZ Z W i).length = W := by simp [fillZ, h]; omega
theorem fillZ_step {Z : List Int} {W i : Nat} {x : Int} (h : Z.length = W) (hx : Z[i]? = some x) : (fillZ Z W i).set i x = fillZ Z W (i + 1) := by
  have hi := (List.getElem?_eq_some_iff.1 hx).1
  unfold fillZ
  apply List.ext_getElem?
  intro j
  rw [List.getElem?_set]
  by_cases hj : i = j
  · subst hj
    rw [if_pos rfl, if_pos (by simp; omega), List.getElem?_append_left (by simp; omega), List.getElem?_take, if_pos (by omega), hx]
  · rw [if_neg hj]
    by_cases hlt : j < i
    · rw [List.getElem?_append_left (by simp; omega), List.getElem?_append_left (by simp; omega), List.getElem?_take, List.getElem?_take, if_pos hlt, if_pos (by omega)]
    · rw [List.getElem?_append_right (by simp; omega), List.getElem?_append_right (by simp; omega), List.getElem?_replicate, List.getElem?_replicate]
      have e1 : (Z.take i).length = i := by simp; omega
      have e2 : (Z.take (i + 1)).length = i + 1 := by simp; omega
      rw [e1, e2]
      by_cases hw : j < W
      · rw [if_pos (by omega), if_pos (by omega)]
      · rw [if_neg (by omega), if_neg (by omega)]

/-- What up tells. -/
def TellU (W' : World) (r : Option (List Int)) (e : Ending) (w' : World) : Prop := (match r with
    | none => e = .returned (.tuple #[.agg #[.int .i64 0, .int .i64 0, .int .i64 0], .bool false])
    | some j => e = .returned (.tuple #[kv3 j, .bool true])) ∧ Below W'.heap.size W' w'
set_option maxRecDepth 100000 in
set_option maxHeartbeats 2000000 in
theorem up_any {w : World} {g W c : Nat} {A : Option Addr} {us : List (List Int)} {k : List Int} (hc : w.cell? ⟨g, 0, none⟩ = some (.int .i64 (W : Int))) (hU : HasL w w.heap.size A W c us) (hk : isKey W k) (h1 : 1 ≤ W) (h3 : W ≤ 3) :
    Calls Try.prog 34 #[.pointer (some ⟨g, 0, none⟩), kv3 k, .slice A W c] w (TellU w (upK us k)) := by
  obtain ⟨x, y, z, hxyz⟩ := kv3_letters k
  have hul := Lib.hid (show us.length = k.length by rw [hU.len, hk.1])
  have hZl := Lib.hid (show (zipU us k).length = W by rw [zipU_len hul.out, hk.1])
  have HK := Lib.hid hk
  have HU := Lib.hid hU
  have HC0 := Lib.hid hc
  have hgl : g < w.heap.size := World.block_lt_of_cell? w _ hc
  have hb2 := below_a2 w (.cells #[.int .i64 x, .int .i64 y, .int .i64 z] 57) (.cells #[.int .i64 0, .int .i64 0, .int .i64 0] 57)
  have hB1 := (Block.new w 57 #[.int .i64 x, .int .i64 y, .int .i64 z]).alloc (.cells #[.int .i64 0, .int .i64 0, .int .i64 0] 57)
  have hB2 := Block.new (w.alloc (.cells #[.int .i64 x, .int .i64 y, .int .i64 z] 57)) 57 #[.int .i64 0, .int .i64 0, .int .i64 0]
  rw [World.size_alloc] at hB2
  have hc2 := (hb2.cell (p := ⟨g, 0, none⟩) hgl).trans hc
  have iW0 : (0 : Int) ≤ (W : Int) := by omega
  rw [hxyz.out]
  clear hU hk hc
  go_enter Try.func34, Try.ntmps34
  go_upto_region 1 with fail
  generalize (w.alloc (.cells #[.int .i64 x, .int .i64 y, .int .i64 z] 57)).alloc (.cells #[.int .i64 0, .int .i64 0, .int .i64 0] 57) = W2 at hb2 hB1 hB2 hc2 ⊢
  have hmk := make_ints W W2 (by omega)
  have hbx := below_a1 W2 (.cells (zrow W) 3)
  have hb3 := below_then hb2 hbx
  have hO3 := own_zrow (base := W2.heap.size) (Block.new W2 3 (zrow W)) (Nat.le_refl _) (by omega)
  have hR3 : OwnI (W2.alloc (.cells (zrow W) 3)) W2.heap.size (.slice (some ⟨W2.heap.size, 0, none⟩) W W) (fillZ (zipU us k) W 0) := by unfold fillZ; simpa using hO3
  have H3 := Lib.hid (And.intro hR3 (And.intro hb3 (And.intro (hB1.alloc (.cells (zrow W) 3)) (hB2.alloc (.cells (zrow W) 3)))))
  have hz2 : w.heap.size + 1 < W2.heap.size := hB2.lt
  clear hbx hb2 hO3 hR3 hb3 hB1 hB2
  go_wp2_with fail
  clear hmk hc2
  generalize W2.alloc (.cells (zrow W) 3) = W3 at H3 ⊢
  obtain ⟨gr, hgr⟩ : ∃ gr, W2.heap.size = gr := ⟨_, rfl⟩
  rw [hgr] at H3 hz2 ⊢
  clear hgr
  go_loopw [17] (fun i wr => ∃ t : Nat, t ≤ W ∧ i = .int .i64 t ∧ OwnI wr gr (.slice (some ⟨gr, 0, none⟩) W W) (fillZ (zipU us k) W t) ∧ Hid (∀ j, j < t → k.getD j 0 < ((us.getD j []).length : Int)) ∧ Below w.heap.size w wr ∧ Block wr w.heap.size 57 #[.int .i64 x, .int .i64 y, .int .i64 z] ∧ Block wr (w.heap.size + 1) 57 #[.int .i64 0, .int .i64 0, .int .i64 0]) (fun i _ => W - (intOf i).toNat)
  case atStart => exact ⟨0, Nat.zero_le _, rfl, H3.out.1, Lib.hid (fun j hj => absurd hj (by omega)), H3.out.2.1, H3.out.2.2.1, H3.out.2.2.2⟩
  case round =>
    obtain ⟨t, ht, rfl, hO, hJ, hB, hX, hR⟩ := hrel
    by_cases hlt : t < W
    · have hkt : Hid (∃ cn : Nat, k[t]? = some (cn : Int)) := Lib.hid (by
        have h1 : t < k.length := by rw [HK.out.1]; exact hlt
        have h2 := HK.out.2 _ (List.getElem_mem h1)
        exact ⟨(k[t]).toNat, by rw [List.getElem?_eq_getElem h1]; congr 1; omega⟩)
      obtain ⟨cn, hcn'⟩ := hkt.out
      have hcn := Lib.hid hcn'
      have kc : wr.cell? ⟨w.heap.size, t, none⟩ = some (.int .i64 (cn : Int)) := by
        rw [hX.cell]
        have e1 : (#[Value.int .i64 x, .int .i64 y, .int .i64 z])[t]? = (kc3 k)[t]? := by
          have h1 := hxyz.out
          rw [kv3_is] at h1
          injection h1 with h1
          rw [← h1]; simp
        rw [e1]
        have h1 := hcn.out
        have : t = 0 ∨ t = 1 ∨ t = 2 := by omega
        rcases this with rfl | rfl | rfl
        · simp [kc3, List.getD_eq_getElem?_getD, h1]
        · simp [kc3, List.getD_eq_getElem?_getD, h1]
        · simp [kc3, List.getD_eq_getElem?_getD, h1]
      obtain ⟨b', o, A', n', c', u, rfl, hbl, hcell, hI, hu⟩ := (HU.out.below hB (Nat.le_refl _)).at_ (k := t) (by omega)
      have i0 : (0 : Int) ≤ (t : Int) := by omega
      have i1 : (t : Int) < (W : Int) := by omega
      have i3 : (t : Int) < 3 := by omega
      have hut : Hid (us[t]? = some u) := Lib.hid (by
        have h1 : t < us.length := by rw [hul.out, HK.out.1]; exact hlt
        rw [hu.out, List.getD_eq_getElem?_getD, List.getElem?_eq_getElem h1]
        rfl)
      clear hcn' hkt
      by_cases hge : (n' : Int) ≤ (cn : Int)
      · have HV : Hid (upK us k = none) := Lib.hid (by
          rcases hh : upK us k with _ | j
          · rfl
          · have h1 := (okZ_at hul.out).1 (upK_back hul.out hh).1 t (by rw [HK.out.1]; exact hlt)
            rw [List.getD_eq_getElem?_getD, hcn.out, List.getD_eq_getElem?_getD, hut.out] at h1
            have h2 := hI.len
            simp at h1
            omega)
        have r0 : wr.cell? ⟨w.heap.size + 1, 0, none⟩ = some (.int .i64 0) := hR.cell 0
        have r1 : wr.cell? ⟨w.heap.size + 1, 1, none⟩ = some (.int .i64 0) := hR.cell 1
        have r2 : wr.cell? ⟨w.heap.size + 1, 2, none⟩ = some (.int .i64 0) := hR.cell 2
        have f0 := hR.free 0
        have f1 := hR.free 1
        have f2 := hR.free 2
        have hge2 : decide ((n' : Int) ≤ (cn : Int)) = true := decide_eq_true hge
        have HX := Lib.hid (fun j => And.intro ((hR.drewN j).put3_ (.int .i64 0) (.int .i64 0) (.int .i64 0)) (below_put3 (g := w.heap.size + 1) (below_drewN hB j) (Nat.le_succ _) (.int .i64 0) (.int .i64 0) (.int .i64 0)))
        clear hR hX hO hB hI
        go_wp2_with fail
        go_quiet (fail)
        go_wp2_with fail
        refine bodyPost_ret (results_block2 rfl _ _ (w.heap.size + 1) _ _ rfl (HX.out _).1 Try.underlying57 rfl info_keyS) rfl ?_
        rw [HV.out]
        exact ⟨rfl, (HX.out _).2⟩
      · have hge2 : decide (n' ≤ cn) = false := decide_eq_false (by omega)
        have hcl : cn < n' := by omega
        obtain ⟨b2, o2, q, rfl, hbl2, hcell2, hq⟩ := hI.at_ hcl
        have i4 : (0 : Int) ≤ (cn : Int) := by omega
        have i5 : (cn : Int) < (n' : Int) := by omega
        have HZq : Hid ((zipU us k)[t]? = some q) := Lib.hid (by
          rw [zipU_at hcn.out hut.out, hq.out]
          simp)
        have HJ : Hid (∀ j, j < t + 1 → k.getD j 0 < ((us.getD j []).length : Int)) := Lib.hid fun j hj => by
          by_cases h : j < t
          · exact hJ.out j h
          · obtain rfl : j = t := by omega
            rw [List.getD_eq_getElem?_getD, hcn.out, List.getD_eq_getElem?_getD, hut.out]
            have h2 := hI.len
            simp
            omega
        have hfl : Hid ((fillZ (zipU us k) W t).length = W) := Lib.hid (fillZ_len hZl.out (Nat.le_of_lt hlt))
        have hcr : wr.cell? ⟨gr, t, none⟩ = some (.int .i64 ((fillZ (zipU us k) W t).getD t 0)) := hO.cell_ t (by rw [hfl.out]; exact hlt)
        have hfr : wr.frozen? ⟨gr, t, none⟩ = false := hO.free t
        have HO := Lib.hid (fun j => (hO.drewN j).set_ t q)
        have HB := Lib.hid (fun j => (below_drewN hB j).setCell (p := ⟨gr, t, none⟩) (show w.heap.size ≤ gr by omega) (.int .i64 q))
        have HX := Lib.hid (fun j => ((hX.drewN j).elsewhere gr t (.int .i64 q) (by omega)))
        have HR := Lib.hid (fun j => ((hR.drewN j).elsewhere gr t (.int .i64 q) (by omega)))
        have HT := Lib.hid (fillZ_step hZl.out HZq.out)
        clear hO hB hX hR hI hJ hq
        go_wp2_with fail
        go_quiet (fail)
        go_wp2_with fail
        go_region
        all_goals
          have hF := And.intro (HO.out (nq + 1)) (And.intro (HB.out (nq + 1)) (And.intro (HX.out (nq + 1)) (HR.out (nq + 1))))
          rw [HT.out] at hF
          have HF := Lib.hid hF
          clear hF HO HB HX HR hcr hfr
          go_wp2_with fail
          go_roundw
          case rel => exact ⟨t + 1, by omega, by go_num, HF.out.1, HJ, HF.out.2⟩
          case measure => simp [intOf]; omega
    · obtain rfl : W = t := by omega
      have hfz : fillZ (zipU us k) W W = zipU us k := by
        unfold fillZ
        rw [List.take_of_length_le (by have := hZl.out; omega), Nat.sub_self]
        simp
      rw [hfz] at hO
      have hZI := hO.has
      have hgc : wr.cell? ⟨g, 0, none⟩ = some (.int .i64 (W : Int)) := (hB.cell (p := ⟨g, 0, none⟩) hgl).trans HC0.out
      have HRl := Lib.hid hR.lt
      by_cases hok : isKey W (zipU us k)
      · have HV : Hid (upK us k = some (zipU us k)) := Lib.hid (upK_yes hul.out ((okZ_at hul.out).2 (by rw [HK.out.1]; exact hJ.out)) hok.2)
        have hko := Lib.hid (keyOf_yes hgc hZI hok)
        obtain ⟨x', y', z', hxyz'⟩ := kv3_letters (zipU us k)
        rw [hxyz'.out] at hko
        have HZ := Lib.hid (And.intro hB hR)
        clear hO hZI hok hX hJ hfz hB hR
        go_wp2_with fail
        refine hko.out.mono ?_
        rintro e w6 ⟨rfl, hb6⟩
        have hR6 := HZ.out.2.below hb6 HRl.out
        have hB6 := below_then HZ.out.1 hb6
        have r0 : w6.cell? ⟨w.heap.size + 1, 0, none⟩ = some (.int .i64 0) := hR6.cell 0
        have r1 : w6.cell? ⟨w.heap.size + 1, 1, none⟩ = some (.int .i64 0) := hR6.cell 1
        have r2 : w6.cell? ⟨w.heap.size + 1, 2, none⟩ = some (.int .i64 0) := hR6.cell 2
        have f0 := hR6.free 0
        have f1 := hR6.free 1
        have f2 := hR6.free 2
        have HP := Lib.hid (hR6.put3_ (.int .i64 x') (.int .i64 y') (.int .i64 z'))
        have HQ := Lib.hid (below_put3 (g := w.heap.size + 1) hB6 (Nat.le_succ _) (.int .i64 x') (.int .i64 y') (.int .i64 z'))
        clear hR6 hB6 hb6 hko HZ
        go_wp2_with fail
        refine bodyPost_ret (results_block2 rfl _ _ (w.heap.size + 1) _ _ rfl HP.out Try.underlying57 rfl info_keyS) rfl ?_
        rw [HV.out]
        refine ⟨?_, HQ.out⟩
        show _ = Ending.returned (.tuple #[kv3 (zipU us k), .bool true])
        rw [hxyz'.out]
        rfl
      · have HV : Hid (upK us k = none) := Lib.hid (by
          rcases hh : upK us k with _ | j
          · rfl
          · have h1 := upK_back hul.out hh
            exact absurd ⟨hZl.out, h1.2.2⟩ hok)
        have hko := Lib.hid (keyOf_no hgc hZI hok)
        have HZ := Lib.hid (And.intro hB hR)
        clear hO hZI hok hX hJ hfz hB hR
        go_wp2_with fail
        refine hko.out.mono ?_
        rintro e w6 ⟨rfl, hb6⟩
        have hR6 := HZ.out.2.below hb6 HRl.out
        have hB6 := below_then HZ.out.1 hb6
        have r0 : w6.cell? ⟨w.heap.size + 1, 0, none⟩ = some (.int .i64 0) := hR6.cell 0
        have r1 : w6.cell? ⟨w.heap.size + 1, 1, none⟩ = some (.int .i64 0) := hR6.cell 1
        have r2 : w6.cell? ⟨w.heap.size + 1, 2, none⟩ = some (.int .i64 0) := hR6.cell 2
        have f0 := hR6.free 0
        have f1 := hR6.free 1
        have f2 := hR6.free 2
        have HP := Lib.hid (hR6.put3_ (.int .i64 0) (.int .i64 0) (.int .i64 0))
        have HQ := Lib.hid (below_put3 (g := w.heap.size + 1) hB6 (Nat.le_succ _) (.int .i64 0) (.int .i64 0) (.int .i64 0))
        clear hR6 hB6 hb6 hko HZ
        go_wp2_with fail
        refine bodyPost_ret (results_block2 rfl _ _ (w.heap.size + 1) _ _ rfl HP.out Try.underlying57 rfl info_keyS) rfl ?_
        rw [HV.out]
        exact ⟨rfl, HQ.out⟩
end Go.Proofs.Yteifhgcjmjihgaa
namespace Go.Proofs.Yteifhgcjmjihgaa
set_option maxRecDepth 100000
open Go.RowKit Go.Maps

/-! ### one element more, inside a region that draws -/
theorem step_appX {α : Type} {E : ElT α} (hE : E.Ok) {T TS : TypeId} {sz bytes : Nat} {z : Value} {w : World} {ops : Array Oper} {o : Oper} {a : Act} {Q : Exit → Act → World → Prop} {K : Act → World → Prop} {Fl : Prop} (hgd : o.guard = none) (s x : Operand)
    (ho : o.op = .call { callee := .builtin .append, args := #[s, x], argTypes := #[TS, TS] }) (hinfo : (Try.prog.info? T).map (fun i => (i.zero, i.size, i.bytes)) = some (some z, sz, bytes)) (hTS : Try.prog.underlying TS = some (.slice T)) (hzs : z.cells.size = sz) (hsz : 0 < sz ∧ sz ≤ 100 ∧ bytes ≤ 1000)
    (base : Nat) (S : Nat → Prop) (v : Value) (L : List α) (hs : a.eval s = v) (hown : OwnR E T sz w base S v L) (g : Nat) (hx : a.eval x = .slice (some ⟨g, 0, none⟩) 1 1) (us : List Value) (hus : us.length = sz) (y : α)
    (hy : ∀ j u, us[j]? = some u → w.cell? ((⟨g, 0, none⟩ : Addr).add j) = some u) (hone : ∀ u ∈ us, u.oneCell' = true) (hE' : E w (fun k => S k ∧ v.ownBlock ≠ some k) us y) (hlen : L.length ≤ 1000000) (hbase : base ≤ w.heap.size)
    (h : ∀ v' w', OwnR E T sz w' base S v' (L ++ [y]) → Grew w v w' v' → K (a.put o.dst v') w') :
    if Region.wanted o (yielded ops a.tmps) = true then Oper.wp Try.prog o a w K Q else Fl := by
  have hw : Region.wanted o (yielded ops a.tmps) = true := by simp [Region.wanted, hgd]
  rw [if_pos hw]
  obtain ⟨i, hi, hz0, hz1, hz2⟩ := info_parts hinfo
  obtain ⟨vs, hr, hxs⟩ := hown
  obtain ⟨v', w', hrun, h2, h3, _, h5⟩ := run_append_own_at (P := Try.prog) w base TS o.type T i _ sz bytes hTS hi hz0 hz1 hz2 hzs hsz.1 v L.length vs hr ⟨g, 0, none⟩ 1 1 us (by rw [hus]; omega) hy hone (by unfold maxLen; omega) (by have := Nat.mul_le_mul (show L.length + 1 ≤ 1000001 by omega) hsz.2.2; omega) hbase
  unfold Oper.wp execOp
  simp only [ho, resolve, invoke, builtin, Sem.run_bind, Sem.run_pure, Result.andThen_ok, List.map_toArray, List.map_cons, List.map_nil, hs, hx, hrun]
  have hG : Grew w v w' v' := ⟨h3, fun q hq => by
    rcases h5 with h5 | h5
    · exact .inl (h5 ▸ hq)
    · rw [h5] at hq
      injection hq with hq
      exact .inr (Nat.le_of_eq hq)⟩
  exact h v' w' (OwnR.snoc hE hr hxs hus hE' h2 hG) hG

/-! ### rows of cells whose lists lie in blocks of ints -/
def IntB (w : World) : Nat → Prop := fun k => ∃ cs, w.heap[k]? = some (.cells cs 3 (0, 0))
abbrev OwnX (w : World) (base : Nat) (v : Value) (L : List PC) : Prop := OwnR elCell 42 4 w base (IntB w) v L
/-- From w to w' only b, and the blocks of P, were written. -/
def Kept (w w' : World) (P : Nat → Prop) : Prop := w'.os = w.os ∧ w'.tape = w.tape ∧ w'.output = w.output ∧ w.heap.size ≤ w'.heap.size ∧ ∀ k, k < w.heap.size → ¬ P k → w'.heap[k]? = w.heap[k]?
theorem Kept.of_grown {w w' : World} {r : Option Nat} (h : w.grownBy w' r) : Kept w w' (fun k => r = some k) := ⟨h.os, h.tape, h.output, h.size, fun k hk hn => h.block k hk (fun e => hn e.symm)⟩
theorem Kept.of_below {w w' : World} (h : Below w.heap.size w w') (P : Nat → Prop) : Kept w w' P := ⟨h.os, h.tape, h.output, h.size, fun k hk _ => h.block k hk⟩
theorem Kept.trans {a b c : World} {P : Nat → Prop} (h : Kept a b P) (h' : Kept b c P) : Kept a c P := ⟨h'.1.trans h.1, h'.2.1.trans h.2.1, h'.2.2.1.trans h.2.2.1, Nat.le_trans h.2.2.2.1 h'.2.2.2.1, fun k hk hn => (h'.2.2.2.2 k (Nat.lt_of_lt_of_le hk h.2.2.2.1) hn).trans (h.2.2.2.2 k hk hn)⟩
theorem Kept.mono {a b : World} {P P' : Nat → Prop} (h : Kept a b P) (hP : ∀ k, k < a.heap.size → P k → P' k) : Kept a b P' := ⟨h.1, h.2.1, h.2.2.1, h.2.2.2.1, fun k hk hn => h.2.2.2.2 k hk fun hp => hn (hP k hk hp)⟩
theorem Kept.below {a b : World} {P : Nat → Prop} {base : Nat} (h : Kept a b P) (hP : ∀ k, P k → base ≤ k) (hb : base ≤ a.heap.size) : Below base a b := ⟨h.1, h.2.1, h.2.2.1, h.2.2.2.1, fun k hk => h.2.2.2.2 k (by omega) fun hp => by have := hP k hp; omega⟩
theorem OwnX.kept {w w' : World} {base : Nat} {v : Value} {L : List PC} {P : Nat → Prop} (h : OwnX w base v L) (hK : Kept w w' P) (hI : ∀ k, IntB w k → ¬ P k) (hv : ∀ k, v.ownBlock = some k → ¬ P k) : OwnX w' base v L := by
  obtain ⟨vs, h1, h2⟩ := h
  refine ⟨vs, ownsRow_mv h1 fun k hk => hK.2.2.2.2 k (h1.lt k hk).2 (hv k hk), fun i x hi => elCell_ok _ _ _ _ _ _ (fun b hb hl => ?_) (h2 i x hi)⟩
  have e := hK.2.2.2.2 b hl (hI b hb.1)
  refine ⟨e, ?_, hb.2⟩
  obtain ⟨cs, hc⟩ := hb.1
  exact ⟨cs, e.trans hc⟩
theorem OwnX.ne_map {w : World} {base b : Nat} {v : Value} {L : List PC} (h : OwnX w base v L) {es : Array MapEntry} {clock : Nat} (hm : w.heap[b]? = some (.map es clock)) : v.ownBlock ≠ some b := by
  obtain ⟨vs, h1, _⟩ := h
  intro e
  rcases h1.2 with ⟨rfl, _⟩ | ⟨g, cap, cur, rfl, _, hg, _⟩
  · simp [Value.ownBlock] at e
  · have e2 : g = b := by simpa [Value.ownBlock] using e
    subst e2
    rw [hm] at hg
    cases hg
theorem OwnX.ne_int {w : World} {base : Nat} {v : Value} {L : List PC} (h : OwnX w base v L) (hne : 42 ≠ 3) {k : Nat} (hk : IntB w k) : v.ownBlock ≠ some k := by
  obtain ⟨vs, h1, _⟩ := h
  intro e
  obtain ⟨cs, hc⟩ := hk
  rcases h1.2 with ⟨rfl, _⟩ | ⟨g, cap, cur, rfl, _, hg, _⟩
  · simp [Value.ownBlock] at e
  · have e2 : g = k := by simpa [Value.ownBlock] using e
    subst e2
    rw [hc] at hg
    injection hg with hg
    injection hg with _ hg _
    exact hne hg.symm
theorem map_notInt {w : World} {b : Nat} {es : Array MapEntry} {clock : Nat} (hm : w.heap[b]? = some (.map es clock)) : ¬ IntB w b := fun ⟨cs, hc⟩ => by rw [hm] at hc; cases hc
/-- A cell of the call's own, as an element. -/
theorem OwnC.elB {w : World} {base : Nat} {n : Int} {v1 v2 v3 : Value} {Su M X : List Int} (h : OwnC w base v1 v2 v3 Su M X) (S : Nat → Prop) (hS : ∀ k, IntB w k → base ≤ k → S k) : elCell w S [.int .i64 n, v1, v2, v3] (n, Su, M, X) := by
  have key : ∀ {v : Value} {l : List Int}, OwnI w base v l → elInts w S [v] l := fun {v l} h => by
    have h2 : OwnR elInt 3 1 w base (fun _ => False) v l := h.ownR
    obtain ⟨A, c, rfl, hr⟩ := h2.read elInt_ok
    refine ⟨A, _, c, rfl, hr.mv elInt_ok (Mv.to w fun b hb hl => ?_)⟩
    rcases hb with hb | ⟨hb1, hb2⟩
    · exact hb.elim
    · refine hS b ?_ hb1
      rcases h.2 with ⟨e, _⟩ | ⟨g, cap, cur, e, _, hg, _⟩
      · rw [e] at hb2; simp [Value.ownBlock] at hb2
      · rw [e] at hb2
        have e2 : g = b := by simpa [Value.ownBlock] using hb2
        subst e2
        exact ⟨cur, hg⟩
  exact ⟨rfl, key h.s, key h.m, key h.x⟩

/-! ### rows under keys -/
structure Tog (W : Nat) (w : World) (base b : Nat) (F : Lit → Option Value) (J : List (List Int)) (G : List Int → List PC) : Prop where
  map : MJ W w b F J
  row : ∀ j kl v, isKey W j → keyOf Try.prog 57 (kv3 j) = some kl → F kl = some v → OwnX w base v (G j)
  mem : ∀ j, j ∈ J ↔ isKey W j ∧ G j ≠ []
  apart : ∀ kl kl' v v', F kl = some v → F kl' = some v' → kl ≠ kl' → v.ownBlock = none ∨ v.ownBlock ≠ v'.ownBlock
theorem Tog.made {W : Nat} (w : World) (base : Nat) : Tog W (w.alloc (.map #[] 0)) base w.heap.size (fun _ => none) [] (fun _ => []) :=
  ⟨MapJ.made w, (fun _ _ _ _ _ h => by cases h), (fun j => by simp), (fun _ _ _ _ h => by cases h)⟩
theorem Tog.rowK {W base b : Nat} {w : World} {F : Lit → Option Value} {J : List (List Int)} {G : List Int → List PC} (h : Tog W w base b F J G) {j : List Int} {kl : Lit} (hj : isKey W j) (hkl : keyOf Try.prog 57 (kv3 j) = some kl) : OwnX w base ((F kl).getD (.slice none 0 0)) (G j) := by
  rcases hF : F kl with _ | v
  · have h1 : ¬ j ∈ J := fun hm => by
      have := (h.map.has j kl hj hkl).2 hm
      rw [hF] at this
      cases this
    have h2 : G j = [] := Classical.byContradiction fun hne => h1 ((h.mem j).2 ⟨hj, hne⟩)
    rw [h2]
    exact OwnR.nil_ w base _
  · exact h.row j kl v hj hkl hF
theorem Tog.kept {W base b : Nat} {w w' : World} {F : Lit → Option Value} {J : List (List Int)} {G : List Int → List PC} (h : Tog W w base b F J G) (hb : Below w.heap.size w w') : Tog W w' base b F J G :=
  ⟨h.map.below hb h.map.lt, fun j kl v hj e hF => (h.row j kl v hj e hF).kept (P := fun _ => False) (Kept.of_below hb _) (fun _ _ h => h) (fun _ _ h => h), h.mem, h.apart⟩
/-- A block that is no cells, nor the map, was written. -/
theorem Tog.walk {W base b r : Nat} {w w' : World} {F : Lit → Option Value} {J : List (List Int)} {G : List Int → List PC} (h : Tog W w base b F J G) (hg : w.grownBy w' (some r)) {o : Obj} (ho : w.heap[r]? = some o) (hw : o.isCells = false) (hne : r ≠ b) : Tog W w' base b F J G :=
  ⟨h.map.same (hg.block b h.map.lt (fun e => hne (Option.some.inj e).symm)), fun j kl v hj e hF => (h.row j kl v hj e hF).kept (Kept.of_grown hg) (fun k hk e => by
    injection e with e
    subst e
    obtain ⟨cs, hc⟩ := hk
    rw [ho] at hc
    injection hc with hc
    subst hc
    cases hw) (fun k hk e => by
    injection e with e
    subst e
    obtain ⟨vs, h1, _⟩ := h.row j kl v hj ‹_› hF
    rcases h1.2 with ⟨rfl, _⟩ | ⟨g, cap, cur, rfl, _, hgg, _⟩
    · simp [Value.ownBlock] at hk
    · have e2 : g = r := by simpa [Value.ownBlock] using hk
      subst e2
      rw [ho] at hgg
      injection hgg with hgg
      subst hgg
      cases hw), h.mem, h.apart⟩
/-- Lists of the call's own, while only a map was written. -/
theorem OwnC.keptB {w z : World} {base b : Nat} {v1 v2 v3 : Value} {Su M X : List Int} (h : OwnC w base v1 v2 v3 Su M X) (hK : Kept w z (fun k => k = b)) {es : Array MapEntry} {clock : Nat} (hm : w.heap[b]? = some (.map es clock)) : OwnC z base v1 v2 v3 Su M X := by
  have key : ∀ {v : Value} {l : List Int}, OwnI w base v l → OwnI z base v l := fun {v l} h => ownsRow_mv h fun k hk => hK.2.2.2.2 k (h.lt k hk).2 fun e => by
    subst e
    rcases h.2 with ⟨rfl, _⟩ | ⟨g, cap, cur, rfl, _, hgg, _⟩
    · simp [Value.ownBlock] at hk
    · have e2 : g = k := by simpa [Value.ownBlock] using hk
      subst e2
      rw [hm] at hgg
      cases hgg
  exact ⟨key h.s, key h.m, key h.x⟩
/-- What append leaves, its elements' lists still in blocks of ints. -/
theorem OwnX.app {z w6 : World} {base : Nat} {v v' : Value} {L L' : List PC} (h : OwnX z base v L) (hne : 42 ≠ 3) (h6 : OwnR elCell 42 4 w6 base (IntB z) v' L') (hG : Grew z v w6 v') : OwnX w6 base v' L' :=
  h6.to elCell_ok fun k hk _ => by
    obtain ⟨cs, hc⟩ := hk
    have hl := (Array.getElem?_eq_some_iff.1 hc).1
    exact ⟨cs, (hG.1.block k hl (fun e => h.ne_int hne ⟨cs, hc⟩ e.symm)).trans hc⟩
theorem RngJ.same {K : TypeId} {kv : List Int → Value} {w w' : World} {W b r cnt : Nat} {F : Lit → Option Value} {J acc : List (List Int)} (h : RngJ K kv W w b r F J acc cnt) (hb : w'.heap[b]? = w.heap[b]?) (hr : w'.heap[r]? = w.heap[r]?) : RngJ K kv W w' b r F J acc cnt := by
  obtain ⟨D, left, ⟨es, clock, since, seen, c0, h1, F1, h2, h3, h4, rest⟩, h5, h6⟩ := h.rng
  exact ⟨h.map.same hb, D, left, ⟨es, clock, since, seen, c0, hb.trans h1, F1, h2, h3, hr.trans h4, rest⟩, h5, h6⟩
theorem RngJ.iter {K : TypeId} {kv : List Int → Value} {w : World} {W b r cnt : Nat} {F : Lit → Option Value} {J acc : List (List Int)} (h : RngJ K kv W w b r F J acc cnt) : ∃ o : Obj, w.heap[r]? = some o ∧ o.isCells = false := by
  obtain ⟨D, left, ⟨es, clock, since, seen, c0, h1, F1, h2, h3, h4, rest⟩, h5, h6⟩ := h.rng
  exact ⟨_, h4, rfl⟩
/-- One cell more under j: the row of j was written, and the map. -/
theorem Tog.more {W base b : Nat} {w w6 w7 : World} {F : Lit → Option Value} {J : List (List Int)} {G : List Int → List PC} (hW : W ≤ 3) (h : Tog W w base b F J G) {j : List Int} {kl : Lit} {x : PC} {v' : Value} (hj : isKey W j) (hkl : keyOf Try.prog 57 (kv3 j) = some kl)
    (hne : 42 ≠ 3) (hK : Kept w w7 (fun k => k = b ∨ ((F kl).getD (.slice none 0 0)).ownBlock = some k)) (h6 : OwnX w6 base v' (G j ++ [x])) (hmb : ∃ es clock, w6.heap[b]? = some (.map es clock)) (hv' : ∀ k, v'.ownBlock = some k → ((F kl).getD (.slice none 0 0)).ownBlock = some k ∨ w.heap.size ≤ k) (h67 : w6.grownBy w7 (some b)) (hM : MJ W w7 b (putF F kl v') (putJ J j)) :
    Tog W w7 base b (putF F kl v') (putJ J j) (fun i => if i = j then G i ++ [x] else G i) := by
  have T := keyT3 hW
  have hold := h.rowK hj hkl
  obtain ⟨es, clock, hm⟩ := h.map.map.is_map
  obtain ⟨es6, clock6, hm6⟩ := hmb
  have hnew : OwnX w7 base v' (G j ++ [x]) := h6.kept (Kept.of_grown h67) (fun k hk e => by
    injection e with e
    subst e
    exact map_notInt hm6 hk) (fun k hk e => by
    injection e with e
    subst e
    exact h6.ne_map hm6 hk)
  refine ⟨hM, fun i il v hi ei hF => ?_, fun i => ?_, fun il il' v u hF hF' hne' => ?_⟩
  · by_cases hij : i = j
    · subst hij
      rw [hkl] at ei
      injection ei with ei
      subst ei
      rw [putF_same] at hF
      injection hF with hF
      subst hF
      rw [if_pos rfl]
      exact hnew
    · have hil : ¬ il = kl := fun e => hij (T.one hi hj (e ▸ ei) hkl)
      rw [putF_other hil] at hF
      rw [if_neg hij]
      have hr := h.row i il v hi ei hF
      refine hr.kept hK (fun k hk e => ?_) (fun k hk e => ?_)
      · rcases e with e | e
        · subst e; exact map_notInt hm hk
        · exact hold.ne_int hne hk e
      · rcases e with e | e
        · subst e; exact hr.ne_map hm hk
        · rcases hFk : F kl with _ | u
          · rw [hFk] at e; simp [Value.ownBlock] at e
          · rw [hFk] at e
            rcases h.apart il kl v u hF hFk hil with h1 | h1
            · rw [h1] at hk; cases hk
            · exact h1 (hk.trans (show u.ownBlock = some k from e).symm)
  · rw [mem_putJ, h.mem]
    by_cases hij : i = j
    · subst hij
      rw [if_pos rfl]
      simp [hj]
    · rw [if_neg hij]
      simp [hij]
  · have lt : ∀ {jl : Lit} {u : Value}, F jl = some u → ∀ k, u.ownBlock = some k → k < w.heap.size := fun {jl u} hu k hk => by
      obtain ⟨i, hi, ei⟩ := h.map.back jl u hu
      exact ((h.row i jl u hi ei hu).lt k hk).2
    have old : ∀ {jl : Lit} {u : Value}, jl ≠ kl → F jl = some u → u.ownBlock = none ∨ u.ownBlock ≠ v'.ownBlock := fun {jl u} hjl hu => by
      rcases hb : u.ownBlock with _ | k
      · exact .inl rfl
      · refine .inr fun e => ?_
        rcases hv' k e.symm with h1 | h1
        · rcases hFk : F kl with _ | u2
          · rw [hFk] at h1; simp [Value.ownBlock] at h1
          · rw [hFk] at h1
            rcases h.apart jl kl u u2 hu hFk hjl with h2 | h2
            · rw [h2] at hb; cases hb
            · exact h2 (hb.trans (show u2.ownBlock = some k from h1).symm)
        · have := lt hu k hb
          omega
    by_cases h1 : il = kl
    · have h2 : ¬ il' = kl := fun e => hne' (h1.trans e.symm)
      rw [h1, putF_same] at hF
      injection hF with hF
      subst hF
      rw [putF_other h2] at hF'
      rcases old h2 hF' with h3 | h3
      · rcases hb : v'.ownBlock with _ | k
        · exact .inl rfl
        · exact .inr (by rw [h3]; exact fun e => by cases e)
      · rcases hb : v'.ownBlock with _ | k
        · exact .inl rfl
        · exact .inr (by rw [← hb]; exact fun e => h3 e.symm)
    · rw [putF_other h1] at hF
      by_cases h2 : il' = kl
      · rw [h2, putF_same] at hF'
        injection hF' with hF'
        subst hF'
        exact old h1 hF
      · rw [putF_other h2] at hF'
        exact h.apart il il' v u hF hF' hne'
end Go.Proofs.Yteifhgcjmjihgaa
namespace Go.Proofs.Yteifhgcjmjihgaa
set_option maxRecDepth 100000
open Go.RowKit Go.Maps

/-- Behind the look for j's place. -/
structure Ent (W : Nat) (W7 z : World) (b : Nat) (F : Lit → Option Value) (J : List (List Int)) (j : List Int) (jl : Lit) (st : Int) : Prop where
  kept : Kept W7 z (fun k => k = b)
  map : ∃ es clock, z.heap[b]? = some (.map es clock)
  store : ∀ (w2 : World) (v : Value), w2.heap[b]? = z.heap[b]? → ∃ w3, (Instr.entryStore 50 (.map (some b)) (.int .i64 st) v).run Try.prog w2 = .ok () w3 ∧ w2.grownBy w3 (some b) ∧ w3.heap.size = w2.heap.size ∧ MJ W w3 b (putF F jl v) (putJ J j)
theorem Ent.lt {W : Nat} {W7 z : World} {b : Nat} {F : Lit → Option Value} {J : List (List Int)} {j : List Int} {jl : Lit} {st : Int} (h : Ent W W7 z b F J j jl st) : b < z.heap.size := by
  obtain ⟨es, clock, hm⟩ := h.map
  exact (Array.getElem?_eq_some_iff.1 hm).1
theorem Ent.below {W : Nat} {W7 z z' : World} {b : Nat} {F : Lit → Option Value} {J : List (List Int)} {j : List Int} {jl : Lit} {st : Int} (h : Ent W W7 z b F J j jl st) (hb : Below z.heap.size z z') : Ent W W7 z' b F J j jl st := by
  have e := hb.block b h.lt
  refine ⟨h.kept.trans (Kept.mono (Kept.of_below hb (fun _ => False)) fun _ _ f => f.elim), ?_, fun w2 v hw => h.store w2 v (hw.trans e)⟩
  obtain ⟨es, clock, hm⟩ := h.map
  exact ⟨es, clock, e.trans hm⟩
theorem cells_zero (u : World) : (zeroValue 58).run Try.prog u = .ok (.slice none 0 0) u := Try.zeroValue58 u
theorem ent_any {W b : Nat} {W7 : World} {F : Lit → Option Value} {J : List (List Int)} {j : List Int} {jl : Lit} (hW : W ≤ 3) (hM : MJ W W7 b F J) (hj : isKey W j) (hkl : keyOf Try.prog 57 (kv3 j) = some jl) (y : World) (hb : Below W7.heap.size W7 y) :
    ∃ (st : Int) (y1 : World), (Instr.mapEntry 50 (.map (some b)) (kv3 j)).run Try.prog y = .ok (.tuple #[(F jl).getD (.slice none 0 0), .int .i64 st]) y1 ∧ Hid (y.grownBy y1 (some b)) ∧ Hid (Ent W W7 y1 b F J j jl st) := by
  have hJ := keys_len hM.nodup hM.key hW
  have hy : MJ W y b F J := hM.below hb hM.lt
  obtain ⟨st, y1, h1, h2, h3, h4⟩ := hy.entry (keyT3 hW) key3_law Try.underlying50 cells_zero (by unfold maxLen; omega) hj hkl
  refine ⟨st, y1, h1, Lib.hid h2, Lib.hid ⟨(Kept.of_below hb _).trans ((Kept.of_grown h2).mono fun k _ e => (Option.some.inj e).symm), ?_, h4⟩⟩
  have hlt := hy.lt
  obtain ⟨D, ⟨es, clock, q1, F1, _, _⟩, _⟩ := hy.map
  obtain ⟨v0, st', es1, clock1, hE, _, _⟩ := Go.WideElems.entry_then_store key3_law Try.underlying50 cells_zero q1 F1 hkl
  rw [h1] at hE
  injection hE with _ hE
  refine ⟨es1, clock1, ?_⟩
  rw [hE]
  simp [Go.ChangeMaps.setBlock, hlt]
theorem OwnX.ne_blk {w : World} {base k : Nat} {v : Value} {L : List PC} {T : TypeId} {cs : Array Value} (h : OwnX w base v L) (hb : Block w k T cs) (hT : 42 ≠ T) : v.ownBlock ≠ some k := by
  obtain ⟨vs, h1, _⟩ := h
  intro e
  rcases h1.2 with ⟨rfl, _⟩ | ⟨g, cap, cur, rfl, _, hg, _⟩
  · simp [Value.ownBlock] at e
  · have e2 : g = k := by simpa [Value.ownBlock] using e
    subst e2
    have hb' : w.heap[g]? = _ := hb
    rw [hb'] at hg
    injection hg with hg
    injection hg with _ hg _
    exact hT hg.symm
/-- b, or the row's own block. -/
def Rw (b : Nat) (v0 : Value) : Nat → Prop := fun k => k = b ∨ v0.ownBlock = some k
/-- 'append(.., x)' behind the look, inside a region that draws: and the store that follows. -/
theorem step_gath {W : Nat} {z W7 : World} {b : Nat} {F : Lit → Option Value} {J : List (List Int)} {G : List Int → List PC} {j : List Int} {jl : Lit} {st n : Int} {v0 v1 v2 v3 : Value} {Su M X : List Int} {base blk : Nat} {ops : Array Oper} {o : Oper} {a : Act} {Q : Exit → Act → World → Prop} {K : Act → World → Prop} {Fl : Prop}
    (hgd : o.guard = none) (s x : Operand) (ho : o.op = .call { callee := .builtin .append, args := #[s, x], argTypes := #[58, 58] })
    (hW : W ≤ 3) (hT : Tog W W7 b b F J G) (hj : isKey W j) (hkl : keyOf Try.prog 57 (kv3 j) = some jl) (hE : Ent W W7 z b F J j jl st) (hv0 : Hid ((F jl).getD (.slice none 0 0) = v0)) (hC : OwnC z base v1 v2 v3 Su M X) (hbs : b ≤ base) (hB : Block z blk 42 #[.int .i64 n, v1, v2, v3]) (hbb : b ≤ blk) (hlen : (G j).length ≤ 1000000)
    (hs : a.eval s = v0) (hx : a.eval x = .slice (some ⟨blk, 0, none⟩) 1 1)
    (h : ∀ v' w6 w7, (Instr.entryStore 50 (.map (some b)) (.int .i64 st) v').run Try.prog w6 = .ok () w7 → Kept W7 w6 (Rw b v0) → Kept W7 w7 (Rw b v0) → Hid (Tog W w7 b b (putF F jl v') (putJ J j) (fun i => if i = j then G i ++ [(n, Su, M, X)] else G i)) → K (a.put o.dst v') w6) :
    if Region.wanted o (yielded ops a.tmps) = true then Oper.wp Try.prog o a z K Q else Fl := by
  have hne : 42 ≠ 3 := by decide
  have hold := hT.rowK hj hkl
  obtain ⟨es0, c0, hm0⟩ := hT.map.map.is_map
  have hz : OwnX z b v0 (G j) := by
    rw [hv0.out] at hold
    exact hold.kept hE.kept (fun k hk e => by subst e; exact map_notInt hm0 hk) (fun k hk e => by subst e; exact hold.ne_map hm0 hk)
  obtain ⟨es, clock, hm⟩ := hE.map
  refine step_appX elCell_ok hgd s x ho info_cell3 Try.underlying58 rfl (by decide) b (IntB z) v0 (G j) hs hz blk hx [.int .i64 n, v1, v2, v3] rfl (n, Su, M, X) (fun i u hi => ?_) ?_ (hC.elB _ fun k hk _ => ⟨hk, hz.ne_int hne hk⟩) hlen (Nat.le_of_lt hE.lt) ?_
  · rw [add_flat, Nat.zero_add, hB.cell]
    simpa using hi
  · obtain ⟨A1, n1, c1, A2, n2, c2, A3, n3, c3, rfl, rfl, rfl, _⟩ := hC.form
    intro u hu
    simp at hu
    rcases hu with rfl | rfl | rfl | rfl <;> rfl
  · intro v' w6 hown hG
    have h6 := hz.app hne hown hG
    have e6 : w6.heap[b]? = z.heap[b]? := hG.1.block b hE.lt (fun e => hz.ne_map hm e.symm)
    obtain ⟨w7, hr, hg7, _, hM7⟩ := hE.store w6 v' e6
    have kp6 : Kept W7 w6 (Rw b v0) := (hE.kept.mono fun k _ e => .inl e).trans ((Kept.of_grown hG.1).mono fun k _ e => .inr e)
    have kp7 : Kept W7 w7 (Rw b v0) := kp6.trans ((Kept.of_grown hg7).mono fun k _ e => .inl (Option.some.inj e).symm)
    refine h v' w6 w7 hr kp6 kp7 (Lib.hid ?_)
    refine hT.more hW hj hkl hne (by rw [hv0.out]; exact kp7) h6 ⟨es, clock, e6.trans hm⟩ (fun k hk => ?_) hg7 hM7
    rw [hv0.out]
    rcases hG.2 k hk with h1 | h1
    · exact .inl h1
    · exact .inr (Nat.le_trans hE.kept.2.2.2.1 h1)
/-- The range, while b and the row's own block were written. -/
theorem RngJ.keptX {K : TypeId} {kv : List Int → Value} {w w' : World} {W c r cnt b base : Nat} {v0 : Value} {F : Lit → Option Value} {J acc : List (List Int)} {L : List PC} (h : RngJ K kv W w c r F J acc cnt) (hK : Kept w w' (Rw b v0)) (hv : OwnX w base v0 L) (hc : c ≠ b) (hr : r ≠ b) : RngJ K kv W w' c r F J acc cnt := by
  obtain ⟨es, clock, hm⟩ := h.map.map.is_map
  obtain ⟨o, ho, hw⟩ := h.iter
  refine h.same (hK.2.2.2.2 c h.map.lt ?_) (hK.2.2.2.2 r h.lt ?_)
  · rintro (e | e)
    · exact hc e
    · exact hv.ne_map hm e
  · rintro (e | e)
    · exact hr e
    · obtain ⟨vs, h1, _⟩ := hv
      rcases h1.2 with ⟨rfl, _⟩ | ⟨g, cap, cur, rfl, _, hgg, _⟩
      · simp [Value.ownBlock] at e
      · have e2 : g = r := by simpa [Value.ownBlock] using e
        subst e2
        rw [ho] at hgg
        injection hgg with hgg
        subst hgg
        cases hw
theorem below_row {w a c : World} {base r : Nat} (hb : Below base w a) (hg : a.grownBy c (some r)) (hr : base ≤ r) (hs : base ≤ a.heap.size) : Below base w c :=
  hb.trans ⟨hg.os, hg.tape, hg.output, hg.size, fun k hk => hg.block k (by omega) (fun e => by have := Option.some.inj e; omega)⟩
theorem Block.keptX {w w' : World} {g b : Nat} {v0 : Value} {T : TypeId} {cs : Array Value} (h : Block w g T cs) (hK : Kept w w' (Rw b v0)) (hg : g ≠ b) (hv : v0.ownBlock ≠ some g) : Block w' g T cs :=
  (hK.2.2.2.2 g h.lt (fun e => e.elim hg hv)).trans h
end Go.Proofs.Yteifhgcjmjihgaa
namespace Go.Proofs.Yteifhgcjmjihgaa
set_option maxRecDepth 100000
open Go.RowKit Go.Maps

/-! ### plain -/
def cellOf (C : Cub) (k : List Int) : PC := (getK C k).getD zeroC
/-- What has come under j, in the order in which it came. -/
def gath (C : Cub) (us : List (List Int)) (acc : List (List Int)) (j : List Int) : List PC := (acc.filter fun k => decide (upK us k = some j)).map (cellOf C)
theorem gath_step {C : Cub} {us : List (List Int)} {acc : List (List Int)} {k j : List Int} (h : upK us k = some j) : gath C us (acc ++ [k]) = fun i => if i = j then gath C us acc i ++ [cellOf C k] else gath C us acc i := by
  funext i
  unfold gath
  rw [List.filter_append, List.map_append]
  by_cases hij : i = j
  · subst hij
    rw [if_pos rfl]
    simp [h]
  · rw [if_neg hij]
    have : ¬ upK us k = some i := fun e => hij (by rw [h] at e; exact (Option.some.inj e).symm)
    simp [this]
theorem gath_perm {C : Cub} {us : List (List Int)} {acc : List (List Int)} (hC : Ris C) (hp : acc.Perm (C.map (·.1))) (j : List Int) : (gath C us acc j).Perm (grp C (upK us) j) := by
  have h1 : (gath C us acc j).Perm (gath C us (C.map (·.1)) j) := (hp.filter _).map _
  refine h1.trans ?_
  have e : gath C us (C.map (·.1)) j = grp C (upK us) j := by
    unfold gath grp
    rw [List.filter_map, List.map_map]
    refine List.map_congr_left fun e he => ?_
    have hm := (List.mem_filter.1 he).1
    show cellOf C e.1 = e.2
    unfold cellOf
    rw [getK_of_mem hC hm]
    rfl
  rw [e]
theorem gath_len {C : Cub} {us : List (List Int)} {acc : List (List Int)} (j : List Int) : (gath C us acc j).length ≤ acc.length := by
  unfold gath
  rw [List.length_map]
  exact List.length_filter_le _ _
theorem gath_nil (C : Cub) (us : List (List Int)) : gath C us [] = fun _ => [] := rfl
/-- What gathered tells. -/
def TellGa (w : World) (W : Nat) (C : Cub) (us : List (List Int)) (e : Ending) (w' : World) : Prop :=
  ((us.length ≠ W ∨ ∃ d ∈ C, upK us d.1 = none) ∧ e = .returned (.tuple #[.map none, .bool false]) ∨
    ¬ (us.length ≠ W ∨ ∃ d ∈ C, upK us d.1 = none) ∧ ∃ bt F J acc, e = .returned (.tuple #[.map (some bt), .bool true]) ∧ Tog W w' w.heap.size bt F J (gath C us acc) ∧ w.heap.size ≤ bt ∧ acc.Perm (C.map (·.1))) ∧ Below w.heap.size w w'
theorem TellU.no {w w' : World} {e : Ending} (h : TellU w none e w') : e = .returned (.tuple #[.agg #[.int .i64 0, .int .i64 0, .int .i64 0], .bool false]) ∧ Below w.heap.size w w' := h
theorem TellU.yes {w w' : World} {e : Ending} {j : List Int} (h : TellU w (some j) e w') : e = .returned (.tuple #[kv3 j, .bool true]) ∧ Below w.heap.size w w' := h
/-- What append needs. -/
structure GZ (W : Nat) (W7 z : World) (b : Nat) (F : Lit → Option Value) (J : List (List Int)) (j : List Int) (jl : Lit) (st n : Int) (v1 v2 v3 : Value) (Su M X : List Int) (blk : Nat) : Prop where
  ent : Ent W W7 z b F J j jl st
  own : OwnC z b v1 v2 v3 Su M X
  lit : Block z blk 42 #[.int .i64 n, v1, v2, v3]
  le : b ≤ blk
section
variable {W b base : Nat} {W7 : World} {F : Lit → Option Value} {J : List (List Int)} {j : List Int} {jl : Lit} {n : Int} {v0 : Value} {Su M X : List Int}
theorem Ent.rw {z : World} {st : Int} (h : Ent W W7 z b F J j jl st) : Kept W7 z (Rw b v0) := h.kept.mono fun _ _ e => .inl e
/-- full ran first. -/
theorem full_look (hW : W ≤ 3) (hM : MJ W W7 b F J) (hj : isKey W j) (hkl : keyOf Try.prog 57 (kv3 j) = some jl) (hb : b ≤ base) (wf : World) (v1 v2 v3 : Value) (hO : OwnC wf base v1 v2 v3 Su M X) (hf : Below W7.heap.size W7 wf) :
    ∃ A1 n1 c1 A2 n2 c2 A3 n3 c3 sb yb sc yc, v1 = .slice A1 n1 c1 ∧ v2 = .slice A2 n2 c2 ∧ v3 = .slice A3 n3 c3 ∧
      (Instr.mapEntry 50 (.map (some b)) (kv3 j)).run Try.prog wf = .ok (.tuple #[(F jl).getD (.slice none 0 0), .int .i64 sb]) yb ∧
      (Instr.mapEntry 50 (.map (some b)) (kv3 j)).run Try.prog (wf.alloc (.cells #[.int .i64 n, .slice A1 n1 c1, .slice A2 n2 c2, .slice A3 n3 c3] 42)) = .ok (.tuple #[(F jl).getD (.slice none 0 0), .int .i64 sc]) yc ∧
      Hid (Kept W7 wf (Rw b v0)) ∧ Hid (Kept W7 yb (Rw b v0)) ∧ Hid (Kept W7 yc (Rw b v0)) ∧
      Hid (GZ W W7 (yb.alloc (.cells #[.int .i64 n, v1, v2, v3] 42)) b F J j jl sb n v1 v2 v3 Su M X yb.heap.size) ∧ Hid (GZ W W7 yc b F J j jl sc n v1 v2 v3 Su M X wf.heap.size) := by
  obtain ⟨es, clock, hm⟩ := (hM.below hf hM.lt).map.is_map
  have hbf : b ≤ wf.heap.size := Nat.le_of_lt (hM.below hf hM.lt).lt
  have mono : ∀ {y y1 : World}, y.grownBy y1 (some b) → Kept y y1 (fun k => k = b) := fun h => (Kept.of_grown h).mono fun _ _ e => (Option.some.inj e).symm
  obtain ⟨sb, yb, eb, gb, Eb⟩ := ent_any hW hM hj hkl wf hf
  have hOb : OwnC yb b v1 v2 v3 Su M X := (hO.low hb).keptB (mono gb.out) hm
  obtain ⟨A1, n1, c1, A2, n2, c2, A3, n3, c3, r1, r2, r3, _⟩ := hO.form
  obtain ⟨sc, yc, ec, gc, Ec⟩ := ent_any hW hM hj hkl (wf.alloc (.cells #[.int .i64 n, v1, v2, v3] 42)) (below_then hf (below_a1 _ _))
  have hma : (wf.alloc (.cells #[.int .i64 n, v1, v2, v3] 42)).heap[b]? = some (.map es clock) := ((below_a1 wf _).block b (hM.below hf hM.lt).lt).trans hm
  have hOc : OwnC yc b v1 v2 v3 Su M X := ((hO.alloc _).low hb).keptB (mono gc.out) hma
  have hBc : Block yc wf.heap.size 42 #[.int .i64 n, v1, v2, v3] := (Block.new wf _ _).grown gc.out (fun e => by have := (hM.below hf hM.lt).lt; have := Option.some.inj e; omega)
  refine ⟨A1, n1, c1, A2, n2, c2, A3, n3, c3, sb, yb, sc, yc, r1, r2, r3, eb, by rw [← r1, ← r2, ← r3]; exact ec, Lib.hid (Kept.of_below hf _), Lib.hid Eb.out.rw, Lib.hid Ec.out.rw, Lib.hid ⟨Eb.out.below (below_a1 _ _), hOb.alloc _, Block.new yb _ _, Nat.le_of_lt Eb.out.lt⟩, Lib.hid ⟨Ec.out, hOc, hBc, hbf⟩⟩
/-- The look came first. -/
theorem look_first {st : Int} {ya : World} (hE : Ent W W7 ya b F J j jl st) (wf : World) (v1 v2 v3 : Value) (hO : OwnC wf base v1 v2 v3 Su M X) (hb : b ≤ base) (hf : Below ya.heap.size ya wf) :
    ∃ A1 n1 c1 A2 n2 c2 A3 n3 c3, v1 = .slice A1 n1 c1 ∧ v2 = .slice A2 n2 c2 ∧ v3 = .slice A3 n3 c3 ∧ Hid (Kept W7 wf (Rw b v0)) ∧ Hid (GZ W W7 (wf.alloc (.cells #[.int .i64 n, v1, v2, v3] 42)) b F J j jl st n v1 v2 v3 Su M X wf.heap.size) := by
  obtain ⟨A1, n1, c1, A2, n2, c2, A3, n3, c3, r1, r2, r3, _⟩ := hO.form
  have h2 := hE.below hf
  exact ⟨A1, n1, c1, A2, n2, c2, A3, n3, c3, r1, r2, r3, Lib.hid h2.rw, Lib.hid ⟨h2.below (below_a1 _ _), (hO.low hb).alloc _, Block.new wf _ _, Nat.le_of_lt h2.lt⟩⟩
end
set_option maxRecDepth 100000 in
set_option maxHeartbeats 4000000 in
theorem gathered_any {w : World} {g b W m n c : Nat} {C : Cub} {A : Option Addr} {us : List (List Int)} (h : Cb w g b W m C) (hU : HasL w w.heap.size A n c us) :
    Calls Try.prog 16 #[.pointer (some ⟨g, 0, none⟩), .slice A n c] w (TellGa w W C us) := by
  have hul := Lib.hid hU.len
  have hun := hU.capMax
  have hcap := hU.cap
  have H0 := Lib.hid h
  have HU := Lib.hid hU
  have c0 := h.c0
  have hw3 := h.w3
  have hw1 := h.w1
  have hm1 := h.m1
  have hm2 := h.m2
  have hlen := h.len
  have hne : 42 ≠ 3 := by decide
  clear h hU
  by_cases hnW : n = W
  · subst hnW
    obtain ⟨Fc, hMc, hFc⟩ := H0.out.map
    have HMc := Lib.hid hMc
    have HFc := Lib.hid hFc
    have hmk : ∀ y : World, (Instr.makeMap 50 none).run Try.prog y = .ok (.map (some y.heap.size)) (y.alloc (.map #[] 0)) := fun y => run_makeMap _ y
    have hb1 := below_a1 w (.map #[] 0)
    have hT1 : Tog n (w.alloc (.map #[] 0)) w.heap.size w.heap.size (fun _ => none) [] (gath C us []) := by rw [gath_nil]; exact Tog.made w w.heap.size
    have hc2 := (H0.out.belowS hb1).c2
    have hM1 := hMc.below hb1 hMc.lt
    obtain ⟨JC, hJC⟩ : ∃ JC, Hid (C.map (·.1) = JC) := ⟨_, Lib.hid rfl⟩
    rw [hJC.out] at hM1
    have H1 := Lib.hid (And.intro hb1 (And.intro hT1 hM1))
    clear hMc hFc hb1 hT1 hM1
    go_enter Try.func16, Try.ntmps16
    go_upto_region 4 with fail
    clear hmk
    obtain ⟨hb1, hT1, hM1⟩ := H1.out
    generalize w.alloc (.map #[] 0) = w1 at hb1 hT1 hM1 hc2 ⊢
    obtain ⟨bt, hbt⟩ : ∃ bt, Hid (w.heap.size = bt) := ⟨_, Lib.hid rfl⟩
    have hbz : bt < w1.heap.size := by rw [← hbt.out]; exact hT1.map.lt
    clear H1 c0
    rw [hbt.out] at hT1 ⊢
    go_wp2_with (first
      | (at_range; refine wpList_range_J _ rfl _ 53 rfl 63 (keyT3 hw3) Try.underlying53 b Fc _ rfl hM1 ?_; intro w2 hrg0 hg0 hs0))
    clear hc2
    obtain ⟨rg, hrgE⟩ : ∃ rg, Hid (w1.heap.size = rg) := ⟨_, Lib.hid rfl⟩
    rw [hrgE.out] at hrg0 ⊢
    have hbw : bt < rg := by rw [← hrgE.out]; exact hbz
    have hbg : Below w1.heap.size w1 w2 := ⟨hg0.os, hg0.tape, hg0.output, hg0.size, fun k hk => hg0.block k hk (by simp)⟩
    have hT2 := hT1.kept hbg
    have hB2 := below_then hb1 hbg
    have hz2 : w.heap.size ≤ bt := Nat.le_of_eq hbt.out
    have H2 := Lib.hid (And.intro hrg0 (And.intro hT2 hB2))
    clear hM1 hT1 hb1 hg0 hs0 hbg hT2 hB2 hrg0 hbz
    go_frame
    go_loopw [7] (fun _ wr => ∃ (cnt : Nat) (acc : List (List Int)) (F : Lit → Option Value) (J : List (List Int)), RJ n wr b rg Fc JC acc cnt ∧ Tog n wr bt bt F J (gath C us acc) ∧ Below w.heap.size w wr ∧ Hid (∀ k ∈ acc, upK us k ≠ none)) (fun _ wr => wr.rangeLeft b rg)
    case atStart => exact ⟨_, [], _, [], H2.out.1, H2.out.2.1, H2.out.2.2, Lib.hid (fun k hk => by simp at hk)⟩
    case round =>
      obtain ⟨cnt, acc, F, J, hrg, hT, hB, hU⟩ := hrel
      have hrl := hrg.left
      go_wp2_with (first
        | (at_next; refine wpList_next_J _ rfl _ rfl (keyT3 hw3) rfl hrg ?_ ?_))
      · intro hp
        have hF := Lib.hid (show TellGa w n C us (.returned (.tuple #[.map (some bt), .bool true])) wr from ⟨.inr ⟨fun h => by
          rcases h with h | ⟨d, hd, h⟩
          · exact h hul.out
          · exact hU.out d.1 (hp.mem_iff.2 (by rw [← hJC.out]; exact List.mem_map_of_mem hd)) h, bt, F, J, acc, rfl, (by rw [hbt.out]; exact hT), hz2, (by rw [hJC.out]; exact hp)⟩, hB⟩)
        clear hrg hT hB
        go_wp2_with fail
        go_ret2
        exact hF.out
      · intro k kl v w3 cnt2 hk hnk hkl hF hrg2 hlt hg2 hs2 hen
        obtain ⟨u, hgu, rfl⟩ : ∃ u, Hid (getK C k = some u) ∧ keptV u = v := by
          obtain ⟨e, he, ek⟩ := List.mem_map.1 (by rw [← hJC.out] at hk; exact hk)
          have h1 := getK_of_mem H0.out.ok.ris he
          have ek : e.1 = k := ek
          rw [ek] at h1
          have h2 := HFc.out k kl (by rw [← ek]; exact H0.out.ok.key e he) hkl
          rw [hF, h1] at h2
          injection h2 with h2
          exact ⟨_, Lib.hid h1, h2.symm⟩
        have hkK := Lib.hid (show isKey n k by
          obtain ⟨e, he, ek⟩ := List.mem_map.1 (by rw [← hJC.out] at hk; exact hk)
          rw [← ek]; exact H0.out.ok.key e he)
        have hcu := Lib.hid (show isCell m u by
          obtain ⟨e, he, ek⟩ := List.mem_map.1 (by rw [← hJC.out] at hk; exact hk)
          have h1 := getK_of_mem H0.out.ok.ris he
          have ek : e.1 = k := ek
          rw [ek, hgu.out] at h1
          injection h1 with h1
          rw [h1]; exact H0.out.ok.cell e he)
        have hmem : Hid (∃ d ∈ C, d.1 = k) := Lib.hid (by
          obtain ⟨e, he, ek⟩ := List.mem_map.1 (by rw [← hJC.out] at hk; exact hk)
          exact ⟨e, he, ek⟩)
        obtain ⟨x0, x1, x2, hkv⟩ := kv3_letters k
        obtain ⟨l0, l1, l2, l3, l4, l5, l6, hV, hVe⟩ := kept_letters2 u
        rw [hkv.out, hV.out] at hen ⊢
        have Hw := Lib.hid (And.intro hrl hlt)
        clear hk hF hkl hrl hlt
        go_upto_region 7 with fail
        clear hen
        obtain ⟨ow, how, hww⟩ := hrg.iter
        have hT3 := hT.walk hg2 how hww (by omega)
        have hB3 := below_row hB hg2 (by omega) hB.size
        have hrb := hrg2.ne
        have hbx := below_a2 w3 (.cells #[.int .i64 x0, .int .i64 x1, .int .i64 x2] 57) (.cells #[.int .i64 l0, .int .i64 l1, .int .i64 l2, .int .i64 l3, .int .i64 l4, .int .i64 l5, .int .i64 l6] 63)
        have hT4 := hT3.kept hbx
        have hrg4 := (hrg2.alloc (.cells #[.int .i64 x0, .int .i64 x1, .int .i64 x2] 57)).alloc (.cells #[.int .i64 l0, .int .i64 l1, .int .i64 l2, .int .i64 l3, .int .i64 l4, .int .i64 l5, .int .i64 l6] 63)
        have hB4 := below_then hB3 hbx
        have hK4 := (Block.new w3 57 #[.int .i64 x0, .int .i64 x1, .int .i64 x2]).alloc (.cells #[.int .i64 l0, .int .i64 l1, .int .i64 l2, .int .i64 l3, .int .i64 l4, .int .i64 l5, .int .i64 l6] 63)
        have hP4 := Block.new (w3.alloc (.cells #[.int .i64 x0, .int .i64 x1, .int .i64 x2] 57)) 63 #[.int .i64 l0, .int .i64 l1, .int .i64 l2, .int .i64 l3, .int .i64 l4, .int .i64 l5, .int .i64 l6]
        rw [World.size_alloc] at hP4
        have hrk : rg < w3.heap.size := hrg2.lt
        rw [← hs2]
        obtain ⟨kb, hkb⟩ : ∃ kb, Hid (w3.heap.size = kb) := ⟨_, Lib.hid rfl⟩
        rw [hkb.out] at hK4 hP4 hrk ⊢
        generalize (w3.alloc (.cells #[.int .i64 x0, .int .i64 x1, .int .i64 x2] 57)).alloc (.cells #[.int .i64 l0, .int .i64 l1, .int .i64 l2, .int .i64 l3, .int .i64 l4, .int .i64 l5, .int .i64 l6] 63) = W4 at hT4 hrg4 hB4 hK4 hP4 ⊢
        have hUp := up_any (w := W4) (g := g) (H0.out.belowS hB4).c0 (HU.out.belowS hB4) hkK.out hw1 hw3
        have k0 : W4.cell? ⟨kb, 0, none⟩ = some (.int .i64 x0) := hK4.cell 0
        have k1 : W4.cell? ⟨kb, 1, none⟩ = some (.int .i64 x1) := hK4.cell 1
        have k2 : W4.cell? ⟨kb, 2, none⟩ = some (.int .i64 x2) := hK4.cell 2
        rw [hkv.out] at hUp
        have H4 := Lib.hid (And.intro hT4 (And.intro hrg4 (And.intro hB4 hP4)))
        clear hT3 hB3 hbx hT4 hrg4 hB4 hK4 hP4 hrg hT hB hrg2 hg2 hs2 how
        rcases hu : upK us k with _ | j
        · rw [hu] at hUp
          have HUp := Lib.hid hUp
          have Hu := Lib.hid hu
          clear hUp hu
          go_wp2_with fail
          refine HUp.out.mono ?_
          intro e w5 h5
          obtain ⟨rfl, hb5⟩ := h5.no
          have hF := Lib.hid (show TellGa w n C us (.returned (.tuple #[.map none, .bool false])) (w5.alloc (.cells #[.int .i64 0, .int .i64 0, .int .i64 0] 57)) from ⟨.inl ⟨.inr (by
            obtain ⟨d, hd, ed⟩ := hmem.out
            exact ⟨d, hd, by rw [ed]; exact Hu.out⟩), rfl⟩, below_then (below_then H4.out.2.2.1 hb5) (below_a1 _ _)⟩)
          clear HUp h5 hb5 k0 k1 k2
          go_wp2_with fail
          go_ret2
          exact hF.out
        · rw [hu] at hUp
          have hjk := Lib.hid (show isKey n j by
            have h1 := upK_back (hul.out.trans hkK.out.1.symm) hu
            rw [h1.2.1]
            exact ⟨(zipU_len (hul.out.trans hkK.out.1.symm)).trans hkK.out.1, h1.2.2⟩)
          obtain ⟨jl, hjl⟩ := (keyT3 hw3).is j hjk.out
          have Hjl := Lib.hid hjl
          have HUp := Lib.hid hUp
          have Hu := Lib.hid hu
          clear hUp hu hjl
          obtain ⟨y0, y1, y2, hjv⟩ := kv3_letters j
          go_wp2_with fail
          refine HUp.out.mono ?_
          intro e w5 h5
          obtain ⟨rfl, hb5⟩ := h5.yes
          rw [hjv.out]
          clear h5 HUp k0 k1 k2
          go_upto_region 10 with fail
          have hbx := below_then hb5 (below_a1 w5 (.cells #[.int .i64 y0, .int .i64 y1, .int .i64 y2] 57))
          have hJ7 := Block.new w5 57 #[.int .i64 y0, .int .i64 y1, .int .i64 y2]
          have hjs : W4.heap.size ≤ w5.heap.size := hb5.size
          have hk4 : kb + 1 < W4.heap.size := H4.out.2.2.2.lt
          generalize w5.alloc (.cells #[.int .i64 y0, .int .i64 y1, .int .i64 y2] 57) = W7 at hbx hJ7 ⊢
          obtain ⟨jb, hjb⟩ : ∃ jb, Hid (w5.heap.size = jb) := ⟨_, Lib.hid rfl⟩
          rw [hjb.out] at hJ7 hjs ⊢
          clear hb5
          have hT7 := Lib.hid (H4.out.1.kept hbx)
          have hrg7 := Lib.hid (H4.out.2.1.below hbx)
          have hB7 := Lib.hid (below_then H4.out.2.2.1 hbx)
          have hP7 := H4.out.2.2.2.below hbx (by omega)
          have hG7 := (H0.out.belowS hB7.out).blk
          have hgs : g < w.heap.size := H0.out.blk.lt
          obtain ⟨v0, hv0⟩ : ∃ v0, Hid ((F jl).getD (.slice none 0 0) = v0) := ⟨_, Lib.hid rfl⟩
          have hOw := Lib.hid (show OwnX W7 bt v0 (gath C us acc j) by rw [← hv0.out]; exact hT7.out.rowK hjk.out Hjl.out)
          have K0 : Hid (∀ y : World, Kept W7 y (Rw bt v0) → y.cell? ⟨g, 1, none⟩ = some (.int .i64 (m : Int)) ∧ y.cell? ⟨jb, 0, none⟩ = some (.int .i64 y0) ∧ y.cell? ⟨jb, 1, none⟩ = some (.int .i64 y1) ∧ y.cell? ⟨jb, 2, none⟩ = some (.int .i64 y2) ∧ y.cell? ⟨kb + 1, 0, none⟩ = some (.int .i64 l0) ∧ y.cell? ⟨kb + 1, 1, none⟩ = some (.int .i64 l1) ∧ y.cell? ⟨kb + 1, 2, none⟩ = some (.int .i64 l2) ∧ y.cell? ⟨kb + 1, 3, none⟩ = some (.int .i64 l3) ∧ y.cell? ⟨kb + 1, 4, none⟩ = some (.int .i64 l4) ∧ y.cell? ⟨kb + 1, 5, none⟩ = some (.int .i64 l5) ∧ y.cell? ⟨kb + 1, 6, none⟩ = some (.int .i64 l6)) := Lib.hid fun y hK => by
            have a1 := hG7.keptX hK (by omega) (hOw.out.ne_blk hG7 (by decide))
            have a2 := hJ7.keptX hK (by omega) (hOw.out.ne_blk hJ7 (by decide))
            have a3 := hP7.keptX hK (by omega) (hOw.out.ne_blk hP7 (by decide))
            exact ⟨a1.cell 1, a2.cell 0, a2.cell 1, a2.cell 2, a3.cell 0, a3.cell 1, a3.cell 2, a3.cell 3, a3.cell 4, a3.cell 5, a3.cell 6⟩
          have hbd : Below W7.heap.size W7 W7.drew := below_drewN (Below.refl _ _) 1
          have hszb : bt ≤ W7.drew.heap.size := Nat.le_of_lt hT7.out.map.lt
          obtain ⟨sa, ya, ea, ga, Ea⟩ := ent_any hw3 hT7.out.map hjk.out Hjl.out W7.drew hbd
          have Ka := Lib.hid (Ea.out.rw (v0 := v0))
          have hya : bt ≤ ya.heap.size := Nat.le_of_lt Ea.out.lt
          rw [hjv.out, hv0.out] at ea
          have FF := Lib.hid fun wf v1 v2 v3 hO (hf : Below W7.drew.heap.size W7.drew wf) => full_look (n := l0) (v0 := v0) (Su := [l1, l2].take m) (M := [l3, l4].take m) (X := [l5, l6].take m) hw3 hT7.out.map hjk.out Hjl.out hszb wf v1 v2 v3 hO (hbd.trans hf)
          rw [hjv.out, hv0.out] at FF
          have FL := Lib.hid fun wf v1 v2 v3 hO hf => look_first (n := l0) (v0 := v0) (Su := [l1, l2].take m) (M := [l3, l4].take m) (X := [l5, l6].take m) (base := ya.heap.size) Ea.out wf v1 v2 v3 hO hya hf
          have hgl : Hid ((gath C us acc j).length ≤ 1000000) := Lib.hid (by
            have h1 := gath_len (C := C) (us := us) (acc := acc) j
            have h2 := hrg7.out.acc_len
            have h3 : JC.length = C.length := by rw [← hJC.out, List.length_map]
            simp at h2
            omega)
          have HX : Hid ((l0, [l1, l2].take m, [l3, l4].take m, [l5, l6].take m) = u) := Lib.hid (by
            obtain ⟨n0, S0, M0, X0⟩ := u
            obtain ⟨⟨h1, h2, h3, _⟩, _, h4⟩ := hcu.out
            obtain ⟨e0, e1, e2, e3, e4, e5, e6⟩ := hVe.out
            have h4 : S0.length = m := h4
            rw [e0, e1, e2, e3, e4, e5, e6, two_take h4 hm2, two_take (by omega) hm2, two_take (by omega) hm2])
          have hbt2 : Hid (b ≠ bt) := Lib.hid (by have := H0.out.map.lt; omega)
          obtain ⟨q0, q1, q2, q3, q4, q5, q6, q7, q8, q9, q10⟩ := K0.out W7 (Kept.of_below (Below.refl _ _) _)
          clear hG7 hJ7 hP7 hbx
          go_wp2_with fail
          go_region_held3 (fun w' => w'.cell? ⟨g, 1, none⟩ = some (.int .i64 (m : Int)) ∧ w'.cell? ⟨jb, 0, none⟩ = some (.int .i64 y0) ∧ w'.cell? ⟨jb, 1, none⟩ = some (.int .i64 y1) ∧ w'.cell? ⟨jb, 2, none⟩ = some (.int .i64 y2) ∧ w'.cell? ⟨kb + 1, 0, none⟩ = some (.int .i64 l0) ∧ w'.cell? ⟨kb + 1, 1, none⟩ = some (.int .i64 l1) ∧ w'.cell? ⟨kb + 1, 2, none⟩ = some (.int .i64 l2) ∧ w'.cell? ⟨kb + 1, 3, none⟩ = some (.int .i64 l3) ∧ w'.cell? ⟨kb + 1, 4, none⟩ = some (.int .i64 l4) ∧ w'.cell? ⟨kb + 1, 5, none⟩ = some (.int .i64 l5) ∧ w'.cell? ⟨kb + 1, 6, none⟩ = some (.int .i64 l6))
            (first
              | exact K0.out _ (Hid.out (by assumption))
              | go_keep)
            (first
              | (go_at_call 35; refine (full_any (by omega) hm2).mono ?_; rintro E wf ⟨v1, v2, v3, rfl, hOC, hbf⟩; obtain ⟨A1, n1, c1, A2, n2, c2, A3, n3, c3, sb, yb, sc, yc, rfl, rfl, rfl, eb, ec, kf, kb', kc', HB, HC⟩ := FF.out wf v1 v2 v3 hOC hbf; clear hOC hbf)
              | (go_at_call 35; refine (full_any (by omega) hm2).mono ?_; rintro E wf ⟨v1, v2, v3, rfl, hOC, hbf⟩; obtain ⟨A1, n1, c1, A2, n2, c2, A3, n3, c3, rfl, rfl, rfl, kf, HA⟩ := FL.out wf v1 v2 v3 hOC hbf; clear hOC hbf)
              | (refine step_gath rfl _ _ rfl hw3 hT7.out hjk.out Hjl.out HC.out.ent hv0 HC.out.own (Nat.le_refl _) HC.out.lit HC.out.le hgl.out rfl rfl ?_; rintro v' w6 w7 er K6 K7 hT')
              | (refine step_gath rfl _ _ rfl hw3 hT7.out hjk.out Hjl.out HB.out.ent hv0 HB.out.own (Nat.le_refl _) HB.out.lit HB.out.le hgl.out rfl rfl ?_; rintro v' w6 w7 er K6 K7 hT')
              | (refine step_gath rfl _ _ rfl hw3 hT7.out hjk.out Hjl.out HA.out.ent hv0 HA.out.own (Nat.le_refl _) HA.out.lit HA.out.le hgl.out rfl rfl ?_; rintro v' w6 w7 er K6 K7 hT'))
          all_goals
            have hrgF := Lib.hid (hrg7.out.keptX K7 hOw.out hbt2.out (by omega))
            have hTF := Lib.hid (show Tog n w7 bt bt (putF F jl v') (putJ J j) (gath C us (acc ++ [k])) by
              rw [gath_step Hu.out]
              have e : cellOf C k = u := by unfold cellOf; rw [hgu.out]; rfl
              rw [e, ← HX.out]
              exact hT'.out)
            have hBF := Lib.hid (hB7.out.trans (K7.below (fun q hq => by
              rcases hq with hq | hq
              · omega
              · have := (hOw.out.lt q hq).1; omega) hB7.out.size))
            have hUF : Hid (∀ k' ∈ acc ++ [k], upK us k' ≠ none) := Lib.hid fun k' hk' => by
              rcases List.mem_append.1 hk' with h1 | h1
              · exact hU.out k' h1
              · rw [List.mem_singleton.1 h1, Hu.out]; exact fun e => by cases e
            clear K6 K7 hT' er
            go_roundw
            case rel => exact ⟨_, _, _, _, _, _, _, _, _, _, _, _, _, _, _, _, _, _, _, _, _, _, _, _, _, _, _, _, _, _, _, _, _, ⟨cnt2, acc ++ [k], putF F jl v', putJ J j, hrgF.out, hTF.out, hBF.out, hUF⟩, rfl⟩
            case measure => rw [hrgF.out.left, Hw.out.1]; exact Hw.out.2
  · have hF := Lib.hid (show TellGa w W C us (.returned (.tuple #[.map none, .bool false])) w from ⟨.inl ⟨.inl (by rw [hul.out]; exact hnW), rfl⟩, Below.refl _ _⟩)
    have hnW2 : ¬ (n : Int) = (W : Int) := by omega
    go_enter Try.func16, Try.ntmps16
    go_wp2_with fail
    go_ret2
    exact hF.out
end Go.Proofs.Yteifhgcjmjihgaa
namespace Go.Proofs.Yteifhgcjmjihgaa
set_option maxRecDepth 100000
open Go.RowKit Go.Maps

theorem rolled_snoc {C : Cub} {u : List Int → Option (List Int)} {J : List (List Int)} {j : List Int} : setK (rolled C u J) j (cSum (grp C u j)).1 = rolled C u (J ++ [j]) := by
  apply ris_ext (setK_ris (rolled_ris _) _ _) (rolled_ris _)
  intro k
  rw [getK_setK, rolled_get, rolled_get]
  by_cases hk : k = j
  · subst hk
    rw [if_pos rfl, if_pos (by simp)]
  · rw [if_neg hk]
    by_cases h : k ∈ J
    · rw [if_pos h, if_pos (by simp [h])]
    · rw [if_neg h, if_neg (by simp [h, hk])]
theorem rolled_same {C : Cub} {u : List Int → Option (List Int)} {A B : List (List Int)} (h : ∀ j, j ∈ A ↔ j ∈ B) : rolled C u A = rolled C u B := by
  apply ris_ext (rolled_ris _) (rolled_ris _)
  intro k
  rw [rolled_get, rolled_get]
  by_cases hk : k ∈ A
  · rw [if_pos hk, if_pos ((h k).1 hk)]
  · rw [if_neg hk, if_neg (fun e => hk ((h k).2 e))]
/-- What Roll tells. -/
def TellRo (w : World) (W m : Nat) (r : Option Cub × Int) (e : Ending) (w' : World) : Prop := (match r.1 with
    | some D => ∃ v, e = .returned (.tuple #[v, .int .i64 r.2]) ∧ TellN w W m D v w'
    | none => e = .returned (.tuple #[.pointer none, .int .i64 r.2])) ∧ Below w.heap.size w w'
theorem TellRo.no {w w' : World} {W m : Nat} {x : Int} (h : Below w.heap.size w w') {r : Option Cub × Int} (hr : r = (none, x)) : TellRo w W m r (.returned (.tuple #[.pointer none, .int .i64 x])) w' := by
  subst hr
  exact ⟨rfl, h⟩
theorem TellRo.yes {w w' : World} {W m : Nat} {D : Cub} {v : Value} (h : Below w.heap.size w w') {r : Option Cub × Int} (hr : r = (some D, 0)) (hv : TellN w W m D v w') : TellRo w W m r (.returned (.tuple #[v, .int .i64 0])) w' := by
  subst hr
  exact ⟨⟨v, rfl, hv⟩, h⟩
set_option maxRecDepth 100000 in
set_option maxHeartbeats 4000000 in
theorem cubRoll_any {w : World} {g b W m n c : Nat} {C : Cub} {A : Option Addr} {us : List (List Int)} (h : Cb w g b W m C) (hU : HasL w w.heap.size A n c us) :
    Calls Try.prog 7 #[.pointer (some ⟨g, 0, none⟩), .slice A n c] w (TellRo w W m (rollK W C us)) := by
  have H0 := Lib.hid h
  have HU := Lib.hid hU
  have hw3 := h.w3
  have hw1 := h.w1
  have hm1 := h.m1
  have hm2 := h.m2
  have hga := Lib.hid (gathered_any h hU)
  clear h hU
  go_enter Try.func7, Try.ntmps7
  go_wp2_with fail
  refine hga.out.mono ?_
  rintro e w1 ⟨⟨hbad, rfl⟩ | ⟨hgood, bt, F, J, acc, rfl, hT, hbt, hp⟩, hb1⟩
  · have hF := Lib.hid (TellRo.no (W := W) (m := m) hb1 (rollK_arg hbad))
    clear hga hbad hb1
    go_wp2_with fail
    go_ret2
    exact hF.out
  · have c0 := (H0.out.belowS hb1).c0
    have c1 := (H0.out.belowS hb1).c1
    have HG := Lib.hid hgood
    have HP := Lib.hid hp
    have HT := Lib.hid hT
    have HB1 := Lib.hid hb1
    have hne := Lib.hid (new_yes hw1 hw3 hm1 hm2 w1.drew)
    have KN : Hid (∀ y : World, Below w1.heap.size w1 y → y.cell? ⟨g, 0, none⟩ = some (.int .i64 (W : Int)) ∧ y.cell? ⟨g, 1, none⟩ = some (.int .i64 (m : Int))) := Lib.hid fun y hy => ⟨(H0.out.belowS (below_then hb1 hy)).c0, (H0.out.belowS (below_then hb1 hy)).c1⟩
    clear hga hgood hp hT hb1
    go_upto_region 4 with fail
    go_region_held3 (fun w' => w'.cell? ⟨g, 0, none⟩ = some (.int .i64 (W : Int)) ∧ w'.cell? ⟨g, 1, none⟩ = some (.int .i64 (m : Int)))
      (first
        | go_keep
        | exact KN.out _ hBB)
      (first
        | (go_at_call 11; refine hne.out.mono ?_; rintro e w2 ⟨⟨v, rfl, hTN⟩, hb2⟩; have hBB : Below w1.heap.size w1 w2 := (below_drewN (Below.refl _ w1) 1).trans hb2))
    obtain ⟨gn, bn, rfl, hC2, hgn, hbn⟩ := hTN
    have hgn : w1.heap.size ≤ gn := hgn
    have hbn : w1.heap.size ≤ bn := hbn
    have hT2 := HT.out.kept hBB
    have hM2 := hT2.map
    have hbz : bt < w1.heap.size := HT.out.map.lt
    have HJ := Lib.hid (And.intro HT.out.map.key HT.out.mem)
    have hB2 := below_then HB1.out hBB
    have hbnl : bn < w2.heap.size := hC2.map.lt
    have hs1 : w.heap.size ≤ w1.heap.size := HB1.out.size
    clear hb2 hBB KN hne c0 c1
    go_wp2_with (first
      | (at_range; refine wpList_range_J _ rfl _ 50 rfl 58 (keyT3 hw3) Try.underlying50 bt F J rfl hM2 ?_; intro w3 hrg0 hg0 hs0))
    obtain ⟨rg, hrgE⟩ : ∃ rg, Hid (w2.heap.size = rg) := ⟨_, Lib.hid rfl⟩
    have hbg : Below w2.heap.size w2 w3 := ⟨hg0.os, hg0.tape, hg0.output, hg0.size, fun k hk => hg0.block k hk (by simp)⟩
    have hT3 := hT2.kept hbg
    have hB3 := below_then hB2 hbg
    have hC3 := hC2.belowS hbg
    have hr1 : w1.heap.size ≤ w2.heap.size := by have := hC2.map.lt; omega
    rw [hrgE.out] at hrg0 hbnl hr1 ⊢
    have H3 := Lib.hid (And.intro hrg0 (And.intro hT3 (And.intro hC3 hB3)))
    clear hM2 hT2 hB2 hC2 hg0 hs0 hbg hT3 hB3 hC3 hrg0
    go_frame
    go_loopw [9] (fun _ wr => ∃ (cnt : Nat) (ac : List (List Int)), RJ W wr bt rg F J ac cnt ∧ Tog W wr w.heap.size bt F J (gath C us acc) ∧ Cb wr gn bn W m (rolled C (upK us) ac) ∧ Below w.heap.size w wr ∧ Hid (∀ j ∈ ac, (cSum (grp C (upK us) j)).2 = 0)) (fun _ wr => wr.rangeLeft bt rg)
    case atStart => exact ⟨_, [], H3.out.1, H3.out.2.1, H3.out.2.2.1, H3.out.2.2.2, Lib.hid (fun k hk => by simp at hk)⟩
    case round =>
      obtain ⟨cnt, ac, hrg, hT, hC, hB, hS⟩ := hrel
      have hrl := hrg.left
      go_wp2_with (first
        | (at_next; refine wpList_next_J _ rfl _ rfl (keyT3 hw3) rfl hrg ?_ ?_))
      · intro hpj
        have hF := Lib.hid (show TellRo w W m (rollK W C us) (.returned (.tuple #[.pointer (some ⟨gn, 0, none⟩), .int .i64 0])) wr from by
          have hmemJ : ∀ j, j ∈ ac ↔ j ∈ upsOf C (upK us) := fun j => by
            rw [hpj.mem_iff, HJ.out.2, mem_upsOf]
            have h1 := gath_perm (us := us) H0.out.ok.ris HP.out j
            rw [← grp_ne]
            constructor
            · rintro ⟨_, h2⟩ e
              rw [e] at h1
              exact h2 h1.eq_nil
            · intro h2
              refine ⟨?_, fun e => h2 (by rw [e] at h1; exact h1.symm.eq_nil)⟩
              obtain ⟨e, he, hj⟩ := grp_ne.1 h2
              exact upK_key (H0.out.ok.key e he) hj
          have h2 : ¬ ∃ j ∈ upsOf C (upK us), (cSum (grp C (upK us) j)).2 ≠ 0 := by
            rintro ⟨j, hj, hx⟩
            exact hx (hS.out j ((hmemJ j).2 hj))
          refine TellRo.yes hB (rollK_ok HG.out h2) ⟨gn, bn, rfl, ?_, by omega, by omega⟩
          rw [← rolled_same hmemJ]
          exact hC)
        clear hrg hT hC hB hS
        go_wp2_with fail
        go_ret2
        exact hF.out
      · intro k kl v w4 cnt2 hk hnk hkl hF hrg2 hlt hg2 hs2 hen
        have hkK := Lib.hid (HJ.out.1 k hk)
        have hLne := Lib.hid ((HJ.out.2 k).1 hk).2
        have hkup : Hid (k ∈ upsOf C (upK us)) := Lib.hid (by
          have h1 := gath_perm (us := us) H0.out.ok.ris HP.out k
          rw [mem_upsOf, ← grp_ne]
          intro e
          rw [e] at h1
          exact hLne.out h1.eq_nil)
        have Hw := Lib.hid (And.intro hrl hlt)
        have hrb := hrg2.ne
        obtain ⟨ow, how, hww⟩ := hrg.iter
        have hT4 := hT.walk hg2 how hww hrb
        have hB4 := below_row hB hg2 (by omega) hB.size
        have hC4 := hC.kept hg2 (fun e => by
          have h1 := hC.blk
          injection e with e
          rw [← e] at h1
          have h1 : wr.heap[rg]? = _ := h1
          rw [how] at h1
          injection h1 with h1
          subst h1
          cases hww) (fun e => by injection e with e; omega)
        obtain ⟨A', c', rfl, hRow⟩ := (hT4.row k kl v hkK.out hkl hF).read elCell_ok
        have hHs := hRow.hasCs
        have hgl : Hid ((gath C us acc k).length ≤ 1000000) := Lib.hid (by
          have h1 := gath_len (C := C) (us := us) (acc := acc) k
          have h2 := HP.out.length_eq
          rw [List.length_map] at h2
          have := H0.out.len
          omega)
        have hgp := Lib.hid (gath_perm (us := us) H0.out.ok.ris HP.out k)
        obtain ⟨L, hL⟩ : ∃ L, Hid (gath C us acc k = L) := ⟨_, Lib.hid rfl⟩
        rw [hL.out] at hHs hgl hgp hLne hen ⊢
        obtain ⟨N, hN⟩ : ∃ N, Hid (L.length = N) := ⟨_, Lib.hid rfl⟩
        rw [hN.out] at hHs hgl hen ⊢
        have hLc : Hid (∀ x ∈ L, isCell m x) := Lib.hid fun x hx => grp_cell H0.out.ok (upK us) k x (hgp.out.mem_iff.1 hx)
        have hSum := Lib.hid ((cSum_perm hgp.out hLc.out hLne.out).symm)
        obtain ⟨x0, x1, x2, hkv⟩ := kv3_letters k
        rw [hkv.out] at hen ⊢
        clear hk hF hkl hrl hlt hRow
        have hbx := below_a1 w4 (.cells #[.int .i64 x0, .int .i64 x1, .int .i64 x2] 57)
        have hT5 := hT4.kept hbx
        have hrg5 := hrg2.alloc (.cells #[.int .i64 x0, .int .i64 x1, .int .i64 x2] 57)
        have hB5 := below_then hB4 hbx
        have hC5 := hC4.belowS hbx
        have hK5 := Block.new w4 57 #[.int .i64 x0, .int .i64 x1, .int .i64 x2]
        have hH5 := hHs.belowS hbx
        obtain ⟨kb, hkb⟩ : ∃ kb, Hid (w4.heap.size = kb) := ⟨_, Lib.hid rfl⟩
        have hbk : bn < kb := by rw [← hkb.out]; exact hC4.map.lt
        rw [hkb.out] at hK5
        clear hT4 hrg2 hB4 hC4 hHs hbx hrg hT hC hB how hg2
        go_upto_region 8 with fail
        rw [← hs2, hkb.out]
        generalize w4.alloc (.cells #[.int .i64 x0, .int .i64 x1, .int .i64 x2] 57) = w5 at hT5 hrg5 hB5 hC5 hK5 hH5 ⊢
        have hsu := Lib.hid (cellSum_any hH5 hgl.out)
        obtain ⟨p, P, Q, R, er, HR⟩ : ∃ p P Q R er, Hid (cSum L = ((p, P, Q, R), er)) := ⟨_, _, _, _, _, Lib.hid rfl⟩
        have H5 := Lib.hid (And.intro hT5 (And.intro hrg5 (And.intro hC5 (And.intro hB5 hK5))))
        have hkl5 : kb < w5.heap.size := hK5.lt
        clear hT5 hrg5 hB5 hC5 hK5 hH5 hen
        go_wp2_with fail
        refine hsu.out.mono ?_
        rw [HR.out]
        rintro e w6 ⟨⟨v1, v2, v3, rfl, hO6⟩, hb6⟩
        obtain ⟨E1, m1, e1, E2, m2', e2, E3, m3, e3, rfl, rfl, rfl, hc6⟩ := hO6.form
        have hbx := below_then hb6 (below_a1 w6 (.cells #[.int .i64 p, .slice E1 m1 e1, .slice E2 m2' e2, .slice E3 m3 e3] 42))
        have hS9 := Block.new w6 42 #[.int .i64 p, .slice E1 m1 e1, .slice E2 m2' e2, .slice E3 m3 e3]
        have hc9 := hc6.allocS (.cells #[.int .i64 p, .slice E1 m1 e1, .slice E2 m2' e2, .slice E3 m3 e3] 42)
        have hz6 : w5.heap.size ≤ w6.heap.size := hb6.size
        clear hsu hO6 hc6 hb6
        by_cases he : er = 0
        · have hee : ((er : Int) != 0) = false := by simp [he]
          have hisc : Hid (isCell m (p, P, Q, R) ∧ (cSum (grp C (upK us) k)) = ((p, P, Q, R), 0)) := Lib.hid (by
            have h1 : (cSum L).2 = 0 := by rw [HR.out]; exact he
            have h2 := sum_isCell hLc.out hLne.out h1
            rw [HR.out] at h2
            have e : (p, P, Q, R) = sumC m L := h2.1
            refine ⟨by rw [e]; exact h2.2, ?_⟩
            rw [hSum.out, HR.out, he])
          clear he
          go_wp2_with fail
          generalize w6.alloc (.cells #[.int .i64 p, .slice E1 m1 e1, .slice E2 m2' e2, .slice E3 m3 e3] 42) = w9 at hbx hS9 hc9 ⊢
          obtain ⟨sb, hsb⟩ : ∃ sb, w6.heap.size = sb := ⟨_, rfl⟩
          rw [hsb] at hz6 hS9 ⊢
          clear hsb
          have hT9 := Lib.hid (H5.out.1.kept hbx)
          have hrg9 := Lib.hid (H5.out.2.1.below hbx)
          have h9 := H5.out.2.2.1.belowS hbx
          have hB9 := Lib.hid (below_then H5.out.2.2.2.1 hbx)
          have hK9 := H5.out.2.2.2.2.below hbx hkl5
          obtain ⟨l0, l1, l2, l3, l4, l5, l6, hV, _, _⟩ := kept_letters (p, P, Q, R)
          have hkp := Lib.hid (keep_any (n := p) (w := w9.drew) hc9.drew)
          rw [hV.out] at hkp
          have KK : Hid (∀ y : World, Below w9.heap.size w9 y → y.cell? ⟨gn, 2, none⟩ = some (.map (some bn)) ∧ y.cell? ⟨kb, 0, none⟩ = some (.int .i64 x0) ∧ y.cell? ⟨kb, 1, none⟩ = some (.int .i64 x1) ∧ y.cell? ⟨kb, 2, none⟩ = some (.int .i64 x2) ∧ y.cell? ⟨sb, 0, none⟩ = some (.int .i64 p) ∧ y.cell? ⟨sb, 1, none⟩ = some (.slice E1 m1 e1) ∧ y.cell? ⟨sb, 2, none⟩ = some (.slice E2 m2' e2) ∧ y.cell? ⟨sb, 3, none⟩ = some (.slice E3 m3 e3)) := Lib.hid fun y hy => by
            have a1 := hK9.below hy hK9.lt
            have a2 := hS9.below hy hS9.lt
            exact ⟨(h9.belowS hy).c2, a1.cell 0, a1.cell 1, a1.cell 2, a2.cell 0, a2.cell 1, a2.cell 2, a2.cell 3⟩
          have KS : Hid (∀ y : World, Below w9.heap.size w9 y → ∃ w', (Instr.mapUpdate 53 (.map (some bn)) (.agg #[.int .i64 x0, .int .i64 x1, .int .i64 x2]) (.agg #[.int .i64 l0, .int .i64 l1, .int .i64 l2, .int .i64 l3, .int .i64 l4, .int .i64 l5, .int .i64 l6])).run Try.prog y = .ok () w' ∧ Cb w' gn bn W m (setK (rolled C (upK us) ac) k (p, P, Q, R)) ∧ y.grownBy w' (some bn) ∧ (∃ es clock, y.heap[bn]? = some (.map es clock)) ∧ w'.cell? ⟨gn, 2, none⟩ = some (.map (some bn)) ∧ w'.cell? ⟨kb, 0, none⟩ = some (.int .i64 x0) ∧ w'.cell? ⟨kb, 1, none⟩ = some (.int .i64 x1) ∧ w'.cell? ⟨kb, 2, none⟩ = some (.int .i64 x2) ∧ w'.cell? ⟨sb, 0, none⟩ = some (.int .i64 p) ∧ w'.cell? ⟨sb, 1, none⟩ = some (.slice E1 m1 e1) ∧ w'.cell? ⟨sb, 2, none⟩ = some (.slice E2 m2' e2) ∧ w'.cell? ⟨sb, 3, none⟩ = some (.slice E3 m3 e3)) := Lib.hid fun y hy => by
            have hy9 := h9.belowS hy
            obtain ⟨w', r1, r2, r3⟩ := hy9.map.store hw3 (t := 53) (x := (p, P, Q, R)) Try.underlying53 hy9.ok.ris (by have := hy9.len; omega) hkK.out
            rw [hkv.out, hV.out] at r1
            have a1 := (hK9.below hy hK9.lt).grown r3 (fun e => by injection e with e; omega)
            have a2 := (hS9.below hy hS9.lt).grown r3 (fun e => by injection e with e; omega)
            have a3 := hy9.put r3 r2 hkK.out hisc.out.1
            exact ⟨w', r1, a3, r3, hy9.map.is_map, a3.c2, a1.cell 0, a1.cell 1, a1.cell 2, a2.cell 0, a2.cell 1, a2.cell 2, a2.cell 3⟩
          have k := KK.out _ (Below.refl _ w9)
          obtain ⟨k0, k1, k2, k3, k4, k5, k6, k7⟩ := k
          clear h9 hK9 hS9 hc9 hbx
          go_region_held3 (fun w' => w'.cell? ⟨gn, 2, none⟩ = some (.map (some bn)) ∧ w'.cell? ⟨kb, 0, none⟩ = some (.int .i64 x0) ∧ w'.cell? ⟨kb, 1, none⟩ = some (.int .i64 x1) ∧ w'.cell? ⟨kb, 2, none⟩ = some (.int .i64 x2) ∧ w'.cell? ⟨sb, 0, none⟩ = some (.int .i64 p) ∧ w'.cell? ⟨sb, 1, none⟩ = some (.slice E1 m1 e1) ∧ w'.cell? ⟨sb, 2, none⟩ = some (.slice E2 m2' e2) ∧ w'.cell? ⟨sb, 3, none⟩ = some (.slice E3 m3 e3))
            (first
              | go_keep
              | exact K11
              | exact KK.out _ hBB1)
            (first
              | (go_at_call 18; refine hkp.out.mono ?_; rintro e w10 ⟨rfl, hb10⟩; have hBB1 : Below w9.heap.size w9 w10 := ((below_drewN (Below.refl _ w9) 1).trans hb10); obtain ⟨w11, hrun, h11, hg11, hmp, K11⟩ := KS.out _ hBB1))
          have hF := Lib.hid (show RJ W w11 bt rg F J (ac ++ [k]) cnt2 ∧ Tog W w11 w.heap.size bt F J (gath C us acc) ∧ Cb w11 gn bn W m (rolled C (upK us) (ac ++ [k])) ∧ Below w.heap.size w w11 from by
            have hn1 : some bt ≠ some bn := fun e => by injection e with e; omega
            have hn2 : some rg ≠ some bn := fun e => by injection e with e; omega
            refine ⟨(hrg9.out.below hBB1).kept hg11 hn1 hn2, ?_, ?_, below_row (below_then hB9.out hBB1) hg11 (by omega) (by have h1 := hB9.out.size; have h2 := hBB1.size; omega)⟩
            · obtain ⟨es, clock, hm⟩ := hmp
              exact (hT9.out.kept hBB1).walk hg11 hm rfl (fun e => hn1 (by rw [e]))
            · rw [← rolled_snoc, hisc.out.2]
              exact h11)
          have hS2 : Hid (∀ j ∈ ac ++ [k], (cSum (grp C (upK us) j)).2 = 0) := Lib.hid fun j hj => by
            rcases List.mem_append.1 hj with h1 | h1
            · exact hS.out j h1
            · rw [List.mem_singleton.1 h1, hisc.out.2]
          clear h11 hg11 hBB1 hb10 hrun K11 KK KS k0 k1 k2 k3 k4 k5 k6 k7 hmp
          go_wp2_with fail
          go_roundw
          case rel => exact ⟨cnt2, ac ++ [k], hF.out.1, hF.out.2.1, hF.out.2.2.1, hF.out.2.2.2, hS2⟩
          case measure => rw [hF.out.1.left, Hw.out.1]; exact Hw.out.2
        · have hee : ((er : Int) != 0) = true := by simpa using he
          have hF := Lib.hid (TellRo.no (W := W) (m := m) (below_then H5.out.2.2.2.1 hbx) (rollK_far HG.out ⟨k, hkup.out, by rw [hSum.out, HR.out]; exact he⟩))
          have he14 : Hid (er = 14) := Lib.hid (by
            have h1 := cSum_cells hLc.out hLne.out
            rw [HR.out] at h1
            split at h1
            · injection h1 with _ h1; exact absurd h1 he
            · injection h1)
          clear he hbx hS9 hc9
          go_wp2_with fail
          go_ret2
          rw [he14.out]
          exact hF.out
end Go.Proofs.Yteifhgcjmjihgaa
namespace Go.Proofs.Yteifhgcjmjihgaa
set_option maxRecDepth 100000
open Go.RowKit Go.Maps

instance : DecidableEq PC := inferInstanceAs (DecidableEq (Int × List Int × List Int × List Int))
instance : DecidableEq Cub := inferInstanceAs (DecidableEq (List (List Int × PC)))
theorem TellRo.some_ {w w' : World} {W m : Nat} {D : Cub} {x : Int} {e : Ending} (h : TellRo w W m (some D, x) e w') : (∃ v, e = .returned (.tuple #[v, .int .i64 x]) ∧ TellN w W m D v w') ∧ Below w.heap.size w w' := h
theorem TellRo.none_ {w w' : World} {W m : Nat} {x : Int} {e : Ending} (h : TellRo w W m (none, x) e w') : e = .returned (.tuple #[.pointer none, .int .i64 x]) ∧ Below w.heap.size w w' := h
theorem TellG.some_ {w w' : World} {u : PC} {e : Ending} (h : TellG w (some u) e w') : (∃ v1 v2 v3, e = .returned (.tuple #[.agg #[.int .i64 u.1, v1, v2, v3], .bool true]) ∧ OwnC w' w.heap.size v1 v2 v3 u.2.1 u.2.2.1 u.2.2.2) ∧ Below w.heap.size w w' := h
def lv1 : Cub := [([1, 2], (1, [5], [5], [5]))]
def lv2 : Cub := [([1, 2], (1, [5], [5], [5])), ([1, 3], (1, [7], [7], [7]))]
def lv3 : Cub := [([1, 2], (2, [4], [-1], [5])), ([1, 3], (1, [7], [7], [7]))]
def lv4 : Cub := [([1, 0], (3, [11], [-1], [7]))]
theorem lx1 : addK 2 1 [] [1, 2] (1, [5], [5], [5]) = (lv1, 0) := by decide +kernel
theorem lx2 : addK 2 1 lv1 [1, 3] (1, [7], [7], [7]) = (lv2, 0) := by decide +kernel
theorem lx3 : addK 2 1 lv2 [1, 2] (1, [-1], [-1], [-1]) = (lv3, 0) := by decide +kernel
theorem lx4 : getC 2 lv3 [1, 2] = some (2, [4], [-1], [5]) := by decide +kernel
theorem lx5 : rollK 2 lv3 [[0, 1], [0, 0, 0, 0]] = (some lv4, 0) := by decide +kernel
theorem lx6 : getC 2 lv4 [1, 0] = some (3, [11], [-1], [7]) := by decide +kernel
theorem litI2 (W : World) (x y : Int) (g : Nat) (hg : g = W.heap.size) : HasI (W.alloc (.cells #[.int .i64 x, .int .i64 y] 3)) (W.alloc (.cells #[.int .i64 x, .int .i64 y] 3)).heap.size (some ⟨g, 0, none⟩) 2 2 [x, y] :=
  (HasI.litAt W [x, y] #[.int .i64 x, .int .i64 y] rfl 3 (0, 0) 2 rfl (by decide) g hg).more (by subst hg; simp)
theorem litI4 (W : World) (x y z t : Int) (g : Nat) (hg : g = W.heap.size) : HasI (W.alloc (.cells #[.int .i64 x, .int .i64 y, .int .i64 z, .int .i64 t] 3)) (W.alloc (.cells #[.int .i64 x, .int .i64 y, .int .i64 z, .int .i64 t] 3)).heap.size (some ⟨g, 0, none⟩) 4 4 [x, y, z, t] :=
  (HasI.litAt W [x, y, z, t] #[.int .i64 x, .int .i64 y, .int .i64 z, .int .i64 t] rfl 3 (0, 0) 4 rfl (by decide) g hg).more (by subst hg; simp)
theorem lv_add {w : World} {g b n c W m : Nat} {C C' : Cub} {A : Option Addr} {k : List Int} {q : Int} {A1 A2 A3 : Option Addr} {n1 c1 n2 c2 n3 c3 : Nat} {S M X : List Int} (h : Cb w g b W m C) (hk : HasI w w.heap.size A n c k) (hx : HasC w w.heap.size A1 n1 c1 A2 n2 c2 A3 n3 c3 S M X) {r : Int} (ha : addK W m C k (q, S, M, X) = (C', r)) :
    Calls Try.prog 12 #[.pointer (some ⟨g, 0, none⟩), .slice A n c, .agg #[.int .i64 q, .slice A1 n1 c1, .slice A2 n2 c2, .slice A3 n3 c3]] w fun e w' => e = .returned (.int .i64 r) ∧ Cb w' g b W m C' ∧ w.grownBy w' (some b) := by
  have h1 := cubAdd_any (q := q) h hk hx
  rw [ha] at h1
  exact h1
set_option maxRecDepth 100000 in
set_option maxHeartbeats 4000000 in
theorem cubLives_any (w : World) : Calls Try.prog 8 #[] w fun e w' => e = .returned (.bool true) ∧ Below w.heap.size w w' := by
  have hn := Lib.hid (new_yes (W := 2) (m := 1) (by decide) (by decide) (by decide) (by decide) w)
  go_enter Try.func8, Try.ntmps8
  go_wp2_with fail
  refine hn.out.mono ?_
  rintro y w1 ⟨⟨v, rfl, g, b, rfl, hC1, hg, hb⟩, hB1⟩
  have H1 := Lib.hid (And.intro hC1 hB1)
  clear hn hC1 hB1
  have hO1 := Lib.hid (lawOne_any 5 (w1.alloc (.cells #[.int .i64 1, .int .i64 2] 3)))
  go_wp2_with fail
  refine hO1.out.mono ?_
  rintro y x1 ⟨A1, n1, c1, A2, n2, c2, A3, n3, c3, rfl, hx, hbx⟩
  have hby := below_then (below_a1 w1 (.cells #[.int .i64 1, .int .i64 2] 3)) hbx
  have hA1 := Lib.hid (lv_add (H1.out.1.belowS hby) ((litI2 w1 1 2 _ rfl).belowS hbx) hx lx1)
  have HB := Lib.hid (below_then H1.out.2 hby)
  clear hO1 hx hbx hby
  go_wp2_with fail
  refine hA1.out.mono ?_
  rintro y w2 ⟨rfl, hC, hG⟩
  have H2 := Lib.hid (And.intro hC (below_row HB.out hG hb HB.out.size))
  clear hA1 hC hG HB H1
  have hO2 := Lib.hid (lawOne_any 7 (w2.alloc (.cells #[.int .i64 1, .int .i64 3] 3)))
  go_wp2_with fail
  refine hO2.out.mono ?_
  rintro y x2 ⟨A1, n1, c1, A2, n2, c2, A3, n3, c3, rfl, hx, hbx⟩
  have hby := below_then (below_a1 w2 (.cells #[.int .i64 1, .int .i64 3] 3)) hbx
  have hA2 := Lib.hid (lv_add (H2.out.1.belowS hby) ((litI2 w2 1 3 _ rfl).belowS hbx) hx lx2)
  have HB := Lib.hid (below_then H2.out.2 hby)
  clear hO2 hx hbx hby
  go_wp2_with fail
  refine hA2.out.mono ?_
  rintro y w3 ⟨rfl, hC, hG⟩
  have H3 := Lib.hid (And.intro hC (below_row HB.out hG hb HB.out.size))
  clear hA2 hC hG HB H2
  have hO3 := Lib.hid (lawOne_any (-1) (w3.alloc (.cells #[.int .i64 1, .int .i64 2] 3)))
  go_wp2_with fail
  refine hO3.out.mono ?_
  rintro y x3 ⟨A1, n1, c1, A2, n2, c2, A3, n3, c3, rfl, hx, hbx⟩
  have hby := below_then (below_a1 w3 (.cells #[.int .i64 1, .int .i64 2] 3)) hbx
  have hA3 := Lib.hid (lv_add (H3.out.1.belowS hby) ((litI2 w3 1 2 _ rfl).belowS hbx) hx lx3)
  have HB := Lib.hid (below_then H3.out.2 hby)
  clear hO3 hx hbx hby
  go_wp2_with fail
  refine hA3.out.mono ?_
  rintro y w4 ⟨rfl, hC, hG⟩
  have H4 := Lib.hid (And.intro hC (below_row HB.out hG hb HB.out.size))
  clear hA3 hC hG HB H3
  have hG1 := Lib.hid (get_any (H4.out.1.alloc (.cells #[.int .i64 1, .int .i64 2] 3)) (litI2 w4 1 2 _ rfl))
  rw [lx4] at hG1
  go_wp2_with fail
  refine hG1.out.mono ?_
  rintro y w5 ⟨⟨v1, v2, v3, rfl, hO5⟩, hb5⟩
  obtain ⟨A1, n1, c1, A2, n2, c2, A3, n3, c3, rfl, rfl, rfl, hx5⟩ := hO5.form
  have hb45 := below_then (below_a1 w4 (.cells #[.int .i64 1, .int .i64 2] 3)) hb5
  have hbl := below_a1 w5 (.cells #[.int .i64 2, .slice A1 n1 c1, .slice A2 n2 c2, .slice A3 n3 c3] 42)
  have hX6 := Block.new w5 42 #[.int .i64 2, .slice A1 n1 c1, .slice A2 n2 c2, .slice A3 n3 c3]
  have H6 := Lib.hid (And.intro ((H4.out.1.belowS hb45).belowS hbl) (And.intro (below_then (below_then H4.out.2 hb45) hbl) (And.intro hX6 (hx5.s.belowS hbl))))
  clear hG1 hO5 hb5 hx5 hb45 hbl hX6 H4
  go_upto_region 8 with fail
  have hxl : w5.heap.size < (w5.alloc (.cells #[.int .i64 2, .slice A1 n1 c1, .slice A2 n2 c2, .slice A3 n3 c3] 42)).heap.size := by simp
  generalize w5.alloc (.cells #[.int .i64 2, .slice A1 n1 c1, .slice A2 n2 c2, .slice A3 n3 c3] 42) = w6 at H6 hxl ⊢
  obtain ⟨xb, hxb⟩ : ∃ xb, w5.heap.size = xb := ⟨_, rfl⟩
  rw [hxb] at H6 hxl ⊢
  clear hxb
  have hl1 := litI2 w6 0 1 _ rfl
  have hl2 := litI4 (w6.alloc (.cells #[.int .i64 0, .int .i64 1] 3)) 0 0 0 0 _ rfl
  have hL := HasL.lit2 (hl1.allocS (.cells #[.int .i64 0, .int .i64 0, .int .i64 0, .int .i64 0] 3)) hl2 33 _ rfl
  have hbL := below_a3 w6 (.cells #[.int .i64 0, .int .i64 1] 3) (.cells #[.int .i64 0, .int .i64 0, .int .i64 0, .int .i64 0] 3) (.cells #[.slice (some ⟨w6.heap.size, 0, none⟩) 2 2, .slice (some ⟨(w6.alloc (.cells #[.int .i64 0, .int .i64 1] 3)).heap.size, 0, none⟩) 4 4] 33)
  have hR := cubRoll_any (H6.out.1.belowS hbL) hL
  rw [lx5] at hR
  simp only [World.size_alloc] at hR hbL
  have HR := Lib.hid hR
  have HB7 := Lib.hid hbL
  clear hl1 hl2 hL hbL hR
  go_wp2_with fail
  refine HR.out.mono ?_
  intro y w7 h7
  obtain ⟨⟨v, rfl, gd, bd, rfl, hC7, hgd, hbd⟩, hb7⟩ := h7.some_
  have hb67 := below_then HB7.out hb7
  have hG2 := Lib.hid (get_any (hC7.alloc (.cells #[.int .i64 1, .int .i64 0] 3)) (litI2 w7 1 0 _ rfl))
  rw [lx6] at hG2
  have H7 := Lib.hid (And.intro (H6.out.1.belowS hb67) (And.intro (below_then H6.out.2.1 hb67) (And.intro (H6.out.2.2.1.below hb67 hxl) (H6.out.2.2.2.belowS hb67))))
  have hxl7 : xb < w7.heap.size := Nat.lt_of_lt_of_le hxl hb67.size
  clear HR h7 HB7 hb7 hb67 H6 hC7
  go_wp2_with fail
  refine hG2.out.mono ?_
  rintro y w8 ⟨⟨v1, v2, v3, rfl, hO8⟩, hb8⟩
  obtain ⟨B1, m1, d1, B2, m2, d2, B3, m3, d3, rfl, rfl, rfl, hx8⟩ := hO8.form
  have hb78 := below_then (below_a1 w7 (.cells #[.int .i64 1, .int .i64 0] 3)) hb8
  have hbl := below_a1 w8 (.cells #[.int .i64 3, .slice B1 m1 d1, .slice B2 m2 d2, .slice B3 m3 d3] 42)
  have hY := Block.new w8 42 #[.int .i64 3, .slice B1 m1 d1, .slice B2 m2 d2, .slice B3 m3 d3]
  have hxl8 : xb < w8.heap.size := Nat.lt_of_lt_of_le hxl7 hb78.size
  have hC9 := (H7.out.1.belowS hb78).belowS hbl
  have hB9 := below_then (below_then H7.out.2.1 hb78) hbl
  have hX9 := (H7.out.2.2.1.below hb78 hxl7).below hbl hxl8
  have hS9 := (H7.out.2.2.2.belowS hb78).belowS hbl
  have hT9 := hx8.s.belowS hbl
  clear hG2 hO8 hb8 hx8 hb78 hbl H7
  go_upto_region 12 with fail
  generalize w8.alloc (.cells #[.int .i64 3, .slice B1 m1 d1, .slice B2 m2 d2, .slice B3 m3 d3] 42) = w9 at hC9 hB9 hX9 hS9 hT9 hY ⊢
  obtain ⟨yb, hyb⟩ : ∃ yb, w8.heap.size = yb := ⟨_, rfl⟩
  rw [hyb] at hY ⊢
  clear hyb hxl7 hxl8 hxl
  obtain rfl : n1 = 1 := by have := hS9.len; simpa using this.symm
  obtain rfl : m1 = 1 := by have := hT9.len; simpa using this.symm
  obtain ⟨e1, o1, z1, rfl, _, q1, hz1⟩ := hS9.at_ (k := 0) (by decide)
  obtain ⟨e2, o2, z2, rfl, _, q2, hz2⟩ := hT9.at_ (k := 0) (by decide)
  obtain rfl : z1 = 4 := hz1.out
  obtain rfl : z2 = 11 := hz2.out
  have x0 : w9.cell? ⟨xb, 0, none⟩ = some (.int .i64 2) := hX9.cell 0
  have x1 : w9.cell? ⟨xb, 1, none⟩ = some (.slice (some ⟨e1, o1, none⟩) 1 c1) := hX9.cell 1
  have y0 : w9.cell? ⟨yb, 0, none⟩ = some (.int .i64 3) := hY.cell 0
  have y1 : w9.cell? ⟨yb, 1, none⟩ = some (.slice (some ⟨e2, o2, none⟩) 1 d1) := hY.cell 1
  have hLn := Lib.hid (cubLen_any hC9)
  have HB := Lib.hid hB9
  clear hC9 hX9 hY hS9 hT9 hB9 hz1 hz2
  go_wp2_with fail
  refine hLn.out.mono ?_
  rintro y w10 ⟨rfl, rfl⟩
  have hl3 : (List.length lv3 : Int) = 2 := by decide
  rw [hl3]
  clear hLn hl3
  rw [Nat.add_zero] at q1 q2
  go_wp2_with fail
  go_ret
  exact ⟨rfl, HB.out⟩
end Go.Proofs.Yteifhgcjmjihgaa
