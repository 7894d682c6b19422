/- Layer 8: Number and Corners. -/
import Derived.Test.YtbiogldapodhmaaSchemaV
namespace Go.Proofs.Ytbiogldapodhmaa
open Go.RowKit Go.Maps

theorem num_err {D : List PDim} {M : List Txt} {V : List (List Int)} {v : List Int} (h : ¬ mayS D M V) {a b : Int} (e : numberP D M V v = (a, b)) : a = 0 ∧ b = 11 := by
  rw [numberP, if_neg h] at e
  simp only [Prod.mk.injEq] at e
  exact ⟨e.1.symm, e.2.symm⟩
theorem num_at {D : List PDim} {M : List Txt} {V : List (List Int)} {v : List Int} (h : mayS D M V) {a b : Int} (e : numberP D M V v = (a, b)) {i : Nat} {l : List Int} (hi : i < (viewsP D V).length) (hl : l = (viewsP D V).getD i []) (hv : l = v) (hn : ∀ j, j < i → (viewsP D V).getD j [] ≠ v) : (i : Int) = a ∧ b = 0 := by
  rw [numberP, if_pos h, numP_at _ 0 i hi hn (hl.symm.trans hv)] at e
  simp only [Prod.mk.injEq, Nat.zero_add] at e
  exact ⟨e.1, e.2.symm⟩
theorem num_no {D : List PDim} {M : List Txt} {V : List (List Int)} {v : List Int} (h : mayS D M V) {a b : Int} (e : numberP D M V v = (a, b)) {k : Nat} (hk : (viewsP D V).length ≤ k) (hn : ∀ j, j < k → (viewsP D V).getD j [] ≠ v) : a = 0 ∧ b = 17 := by
  rw [numberP, if_pos h, numP_no _ 0 fun j hj => hn j (by omega)] at e
  simp only [Prod.mk.injEq] at e
  exact ⟨e.1.symm, e.2.symm⟩
theorem num_step {L : List (List Int)} {v l : List Int} {k : Nat} (hn : ∀ j, j < k → L.getD j [] ≠ v) (hl : l = L.getD k []) (hv : ¬ l = v) : ∀ j, j < k + 1 → L.getD j [] ≠ v := fun j hj => by
  by_cases h : j < k
  · exact hn j h
  · obtain rfl : j = k := by omega
    rw [← hl]; exact hv
theorem pair_of {a b c d : Int} (h1 : a = c) (h2 : b = d) : Ending.returned (.tuple #[.int .i64 a, .int .i64 b]) = .returned (.tuple #[.int .i64 c, .int .i64 d]) := by rw [h1, h2]
set_option maxRecDepth 100000 in
set_option maxHeartbeats 1000000 in
/-- Number. -/
theorem number_any {A1 A2 A3 A : Option Addr} {n1 c1 n2 c2 n3 c3 n c : Nat} {D : List PDim} {M : List Txt} {V : List (List Int)} {v : List Int} {w : World} (h : HasS w w.heap.size A1 n1 c1 A2 n2 c2 A3 n3 c3 D M V) (hv : HasI w w.heap.size A n c v) (hf : FitD D) (hm : ∀ s ∈ M, s.length ≤ maxLen) (hn1 : n1 ≤ 1000) (hn3 : n3 ≤ 1000) (hV : ∀ l ∈ V, l.length ≤ 1000) {a b : Int} (hab : Hid (numberP D M V v = (a, b))) :
    Calls Try.prog 22 #[schV A1 n1 c1 A2 n2 c2 A3 n3 c3, .slice A n c] w fun e w' => e = .returned (.tuple #[.int .i64 a, .int .i64 b]) ∧ Below w.heap.size w w' := by
  have HV := Lib.hid hV
  have HN3 := Lib.hid h.v.len
  have hb0 := below_a1 w (.cells #[.slice A1 n1 c1, .slice A2 n2 c2, .slice A3 n3 c3] 26)
  have h1 := h.belowS hb0
  have hv1 := hv.belowS hb0
  have hS := Block.new w 26 #[.slice A1 n1 c1, .slice A2 n2 c2, .slice A3 n3 c3]
  have HM := Lib.hid (maySchema_any h1 hf hm hn1)
  clear h hv hV hm hf
  by_cases hd : mayS D M V
  · rw [decide_eq_true hd] at HM
    have HX := Lib.hid hd
    clear hd
    go_enter Try.func22, Try.ntmps22
    go_wp2_with fail
    generalize w.alloc (.cells #[.slice A1 n1 c1, .slice A2 n2 c2, .slice A3 n3 c3] 26) = w1 at hb0 h1 hS HM hv1 ⊢
    refine HM.out.mono ?_
    rintro e w2 ⟨rfl, hb2⟩
    have h2 := h1.belowS hb2
    have hv2 := hv1.belowS hb2
    have hS2 := hS.below hb2 hS.lt
    have hb3 := below_then hb0 hb2
    have s0 : w2.cell? ⟨w.heap.size, 0, none⟩ = some (.slice A1 n1 c1) := hS2.cell 0
    have s1 : w2.cell? ⟨w.heap.size, 1, none⟩ = some (.slice A2 n2 c2) := hS2.cell 1
    have s2 : w2.cell? ⟨w.heap.size, 2, none⟩ = some (.slice A3 n3 c3) := hS2.cell 2
    clear HM hb2 hb0 h1 hS hv1
    go_wp2_with fail
    refine (views_any h2 hn1 hn3 HV.out).mono ?_
    rintro e w3 ⟨⟨u, rfl, hO⟩, hb4⟩
    obtain ⟨Au, cu, rfl, hL⟩ := hO.form
    obtain ⟨N, hN, hN2⟩ : ∃ N, Hid ((viewsP D V).length = N) ∧ N ≤ 1001 := ⟨_, Lib.hid rfl, by have := HN3.out; simp [viewsP]; omega⟩
    rw [hN.out] at hL ⊢
    have hb5 := below_then hb3 hb4
    have hv3 := hv2.belowS hb4
    clear s0 s1 s2 hO hb4 hb3 h2 hS2 hv2
    go_wp2_with fail
    go_loopw [14] (fun i wr => ∃ k q : Nat, k ≤ N ∧ i = .int .i64 k ∧ wr = w3.drewN q ∧ Hid (∀ j, j < k → (viewsP D V).getD j [] ≠ v)) (fun i _ => N - (intOf i).toNat)
    case atStart => exact ⟨0, 0, Nat.zero_le _, rfl, rfl, Lib.hid fun j hj => absurd hj (by omega)⟩
    case round =>
      obtain ⟨k, q, hk, rfl, rfl, ht⟩ := hrel
      by_cases hlt : k < N
      · obtain ⟨b', o, A', n', c', l, rfl, hb, g0, hl, he⟩ := hL.at_ hlt
        have i0 : (0 : Int) ≤ (k : Int) := by omega
        have i1 : (k : Int) < (N : Int) := by omega
        have HE := Lib.hid (equalI_any (w := w3.drewN q) (hl.drewN q) (hv3.drewN q))
        by_cases hlv : l = v
        · have H := Lib.hid (num_at HX.out hab.out (by rw [hN.out]; exact hlt) he.out hlv ht.out)
          rw [decide_eq_true hlv] at HE
          clear hlv
          go_wp2_with fail
          refine HE.out.mono ?_
          rintro e w4 ⟨rfl, p, rfl⟩
          have HB := Lib.hid (below_drewN hb5 (q + p))
          clear HE hl
          go_wp2_with fail
          go_ret2
          exact ⟨pair_of H.out.1 H.out.2.symm, HB.out⟩
        · have H := Lib.hid (num_step ht.out he.out hlv)
          rw [decide_eq_false hlv] at HE
          clear hlv
          go_wp2_with fail
          refine HE.out.mono ?_
          rintro e w4 ⟨rfl, p, rfl⟩
          clear HE hl
          go_wp2_with fail
          go_roundw
          case rel => exact ⟨k + 1, q + p, by omega, by go_num, rfl, H⟩
          case measure => simp [intOf]; omega
      · have H := Lib.hid (num_no HX.out hab.out (k := k) (by rw [hN.out]; omega) ht.out)
        have HB := Lib.hid (below_drewN hb5 q)
        go_wp2_with fail
        go_ret2
        exact ⟨pair_of H.out.1.symm H.out.2.symm, HB.out⟩
  · rw [decide_eq_false hd] at HM
    have H := Lib.hid (num_err hd hab.out)
    clear hd
    go_enter Try.func22, Try.ntmps22
    go_wp2_with fail
    refine HM.out.mono ?_
    rintro e w2 ⟨rfl, hb2⟩
    have hb3 := below_then hb0 hb2
    clear HM
    go_wp2_with fail
    go_ret2
    exact ⟨pair_of H.out.1.symm H.out.2.symm, hb3⟩

/-! ### How many corners -/
theorem base_le {D : List PDim} {k : Nat} {y : Int} (hy : y = (baseP D).getD k 0) : 0 ≤ y := by
  rw [hy, List.getD_eq_getElem?_getD]
  by_cases hk : k < (baseP D).length
  · rw [List.getElem?_eq_getElem hk]
    have : (baseP D)[k] ∈ baseP D := List.getElem_mem hk
    obtain ⟨d, _, e⟩ := List.mem_map.1 this
    show 0 ≤ (baseP D)[k]
    omega
  · rw [List.getElem?_eq_none (by omega)]; exact Int.le_refl _
theorem prod_step {L : List Int} {k : Nat} {p y : Int} (hk : k < L.length) (hy : y = L.getD k 0) (h : ¬ 100 < y) : prodP p (L.drop k) = prodP (p * (y + 1)) (L.drop (k + 1)) := by
  rw [List.drop_eq_getElem_cons hk, prodP]
  have e : L[k] = y := by rw [hy, List.getD_eq_getElem?_getD, List.getElem?_eq_getElem hk]; rfl
  rw [e, if_neg h]
theorem prod_stop {L : List Int} {k : Nat} {p y : Int} (hk : k < L.length) (hy : y = L.getD k 0) (h : 100 < y) : prodP p (L.drop k) = 0 := by
  rw [List.drop_eq_getElem_cons hk, prodP]
  have e : L[k] = y := by rw [hy, List.getD_eq_getElem?_getD, List.getElem?_eq_getElem hk]; rfl
  rw [e, if_pos h]
theorem pow_bound {k : Nat} {p y : Int} (hk : k < 8) (hp0 : 0 ≤ p) (hp : p ≤ 101 ^ k) (hy0 : 0 ≤ y) (hy : ¬ 100 < y) : 0 ≤ p * (y + 1) ∧ p * (y + 1) ≤ 101 ^ (k + 1) ∧ IntKind.i64.wrap (p * (y + 1)) = p * (y + 1) := by
  have h1 : 0 ≤ p * (y + 1) := Int.mul_nonneg hp0 (by omega)
  have h2 : p * (y + 1) ≤ 101 ^ k * 101 := Int.mul_le_mul hp (by omega) (by omega) (by have : (0 : Int) ≤ 101 ^ k := Int.pow_nonneg (by decide); exact this)
  have h3 : (101 : Int) ^ k * 101 = 101 ^ (k + 1) := (Int.pow_succ 101 k).symm
  have h4 : (101 : Int) ^ (k + 1) ≤ 10828567056280801 := by
    rcases (by omega : k = 0 ∨ k = 1 ∨ k = 2 ∨ k = 3 ∨ k = 4 ∨ k = 5 ∨ k = 6 ∨ k = 7) with rfl | rfl | rfl | rfl | rfl | rfl | rfl | rfl <;> decide +kernel
  refine ⟨h1, h3 ▸ h2, ?_⟩
  have h5 : p * (y + 1) ≤ 10828567056280801 := Int.le_trans (h3 ▸ h2) h4
  exact IntWalk.i64_in _ (by omega)
theorem corners_long {D : List PDim} (h : 8 < D.length) : cornersP D = 0 := by rw [cornersP, if_pos h]
theorem corners_start {D : List PDim} (h : ¬ 8 < D.length) : cornersP D = prodP 1 ((baseP D).drop 0) := by rw [cornersP, if_neg h, List.drop_zero]
theorem prod_done {L : List Int} {p : Int} {k : Nat} (h : L.length ≤ k) : prodP p (L.drop k) = p := by rw [List.drop_eq_nil_of_le h]; rfl
set_option maxRecDepth 100000 in
set_option maxHeartbeats 1000000 in
/-- Corners. -/
theorem corners_any {A1 A2 A3 : Option Addr} {n1 c1 n2 c2 n3 c3 : Nat} {D : List PDim} {w : World} (h : HasDs w w.heap.size A1 n1 c1 D) :
    Calls Try.prog 29 #[schV A1 n1 c1 A2 n2 c2 A3 n3 c3] w fun e w' => e = .returned (.int .i64 (cornersP D)) ∧ Below w.heap.size w w' := by
  have HL := Lib.hid h.len
  have hnm := h.lenMax
  have hb0 := below_a1 w (.cells #[.slice A1 n1 c1, .slice A2 n2 c2, .slice A3 n3 c3] 26)
  have h1 := h.belowS hb0
  have hS := Block.new w 26 #[.slice A1 n1 c1, .slice A2 n2 c2, .slice A3 n3 c3]
  clear h
  by_cases h8 : (8 : Int) < (n1 : Int)
  · have H := Lib.hid (corners_long (D := D) (by rw [HL.out]; omega))
    go_enter Try.func29, Try.ntmps29
    go_wp2
    go_ret
    exact ⟨i64_of H.out.symm, hb0⟩
  · have H := Lib.hid (corners_start (D := D) (by rw [HL.out]; omega))
    have H8 : Hid (n1 ≤ 8) := Lib.hid (by omega)
    go_enter Try.func29, Try.ntmps29
    go_wp2_with fail
    generalize w.alloc (.cells #[.slice A1 n1 c1, .slice A2 n2 c2, .slice A3 n3 c3] 26) = w1 at hb0 h1 hS ⊢
    refine (base_any h1 (by have := H8.out; omega)).mono ?_
    rintro e w2 ⟨⟨v, rfl, hO⟩, hb2⟩
    obtain ⟨Ab, nb, cb, rfl, hI, _⟩ := hO.formN
    have hbl := Lib.hid hI.len
    have hnb : nb ≤ 8 := by have := H8.out; have := HL.out; have := hbl.out; rw [baseP_len] at this; omega
    have hb3 := below_then hb0 hb2
    clear hO hb2 hb0 h1 hS
    go_wp2_with fail
    go_loop [3, 13] (fun v i => ∃ (k : Nat) (p : Int), k ≤ nb ∧ i = .int .i64 k ∧ v = .int .i64 p ∧ 0 ≤ p ∧ Hid (p ≤ 101 ^ k) ∧ Hid (cornersP D = prodP p ((baseP D).drop k))) (fun _ i => nb - (intOf i).toNat)
    case atStart => exact ⟨0, 1, Nat.zero_le _, rfl, rfl, by decide, Lib.hid (by decide), H⟩
    case round =>
      obtain ⟨k, p, hk, rfl, rfl, hp0, hp, hT⟩ := hrel
      by_cases hlt : k < nb
      · obtain ⟨b, o, y, rfl, hb, g0, ey⟩ := hI.at_ hlt
        have i0 : (0 : Int) ≤ (k : Int) := by omega
        have i1 : (k : Int) < (nb : Int) := by omega
        by_cases hy : 100 < y
        · have HZ := Lib.hid (hT.out.trans (prod_stop (by rw [hbl.out]; exact hlt) ey.out hy))
          go_wp2
          go_ret
          exact ⟨i64_of HZ.out.symm, hb3⟩
        · have HN := Lib.hid (hT.out.trans (prod_step (by rw [hbl.out]; exact hlt) ey.out hy))
          obtain ⟨q0, q1, q2⟩ := pow_bound (k := k) (by omega) hp0 hp.out (base_le ey.out) hy
          have hyw : IntKind.i64.wrap (y + 1) = y + 1 := IntWalk.i64_in _ (by have := base_le ey.out; omega)
          have Q1 := Lib.hid q1
          clear q1
          go_wp2
          go_round
          case rel => exact ⟨k + 1, p * (y + 1), by omega, by go_num, rfl, q0, Q1, HN⟩
          case measure => simp [intOf]; omega
      · have HE := Lib.hid (hT.out.trans (prod_done (by rw [hbl.out]; omega)))
        go_wp2
        go_ret
        exact ⟨i64_of HE.out.symm, hb3⟩
end Go.Proofs.Ytbiogldapodhmaa
