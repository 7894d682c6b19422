/- CellT, CellP, CellRT, CellU, CellRE, CellRM, CellRG, CellRF, CellRU, CellS -/
import Derived.Test.YteifhgcjmjihgaaJ2
import Derived.Test.YteifhgcjmjihgaaJ13
import Derived.Test.YteifhgcjmjihgaaJ16
import Derived.Test.YteifhgcjmjihgaaJ18
import Derived.Test.YteifhgcjmjihgaaJ26
import Derived.Test.YteifhgcjmjihgaaJ30
namespace Go.Proofs.Yteifhgcjmjihgaa
set_option maxRecDepth 100000
open Go.RowKit

/-- The first k are told, the others are noughts still. -/
def nums (l : List Int) (k : Nat) : List Int := l.take k ++ List.replicate (l.length - k) 0
theorem nums_zero (l : List Int) : nums l 0 = List.replicate l.length 0 := by simp [nums]
theorem nums_all (l : List Int) : nums l l.length = l := by simp [nums]
theorem nums_set {l : List Int} {k : Nat} (h : k < l.length) : (nums l k).set k (l.getD k 0) = nums l (k + 1) := by
  apply List.ext_getElem?
  intro j
  unfold nums
  rw [List.getElem?_set]
  by_cases hj : k = j
  · subst hj
    rw [if_pos rfl, if_pos (by simp; omega), List.getElem?_append_left (by simp; omega), List.getElem?_take, if_pos (by omega), List.getD_eq_getElem?_getD, List.getElem?_eq_getElem h]
    rfl
  · rw [if_neg hj]
    by_cases hjk : j < k
    · rw [List.getElem?_append_left (by simp; omega), List.getElem?_append_left (by simp; omega), List.getElem?_take, List.getElem?_take, if_pos hjk, if_pos (by omega)]
    · rw [List.getElem?_append_right (by simp; omega), List.getElem?_append_right (by simp; omega), List.getElem?_replicate, List.getElem?_replicate, List.length_take, List.length_take]
      by_cases hl : j < l.length
      · rw [if_pos (by omega), if_pos (by omega)]
      · rw [if_neg (by omega), if_neg (by omega)]
theorem nums_length (l : List Int) (k : Nat) (h : k ≤ l.length) : (nums l k).length = l.length := by simp [nums]; omega
/-- Is it an int? -/
def is64 (z : Int) : Prop := -9223372036854775808 ≤ z ∧ z ≤ 9223372036854775807
instance (z : Int) : Decidable (is64 z) := by unfold is64; exact inferInstance
theorem wNum_is (z : Int) : wNum (z / 4294967296) (z % 4294967296) = z := by unfold wNum; omega

set_option maxRecDepth 100000 in
set_option maxHeartbeats 2000000 in
theorem ctotal_any {A : Option Addr} {n c : Nat} {L : List PC} {w : World} (h : HasCs w w.heap.size A n c L) (hn : n ≤ 1000000) (fid : Nat) (lb : Array Value) (f : PC → Int)
    (eg : ∀ args W, (callFunc fid args).run Try.prog W = .ok (.enter fid args) W)
    (HF : ∀ k, k < n → ∀ q A1 n1 c1 A2 n2 c2 A3 n3 c3 S M X W, Below w.heap.size w W → HasC W W.heap.size A1 n1 c1 A2 n2 c2 A3 n3 c3 S M X → L.getD k zeroC = (q, S, M, X) →
      Calls Try.prog fid (#[cellV q A1 n1 c1 A2 n2 c2 A3 n3 c3] ++ lb) W fun e w' => e = .returned (.int .i64 (f (q, S, M, X))) ∧ Below W.heap.size W w')
    (hI : I64 (L.map f)) {z x : Int} (hs : (is64 (sumI (L.map f)) ∧ z = sumI (L.map f) ∧ x = 0) ∨ (¬ is64 (sumI (L.map f)) ∧ z = 0 ∧ x = 14)) :
    Calls Try.prog 56 #[.slice A n c, .func (.func fid) #[] lb] w fun e w' => e = .returned (.tuple #[.int .i64 z, .int .i64 x]) ∧ Below w.heap.size w w' := by
  have hlm := h.lenMax
  have hll := Lib.hid h.len
  have HI := Lib.hid hI
  have HS := Lib.hid hs
  have HFF := Lib.hid HF
  clear hI hs HF
  have HK : ∀ W : World, (Instr.makeSlice 33 (.int .i64 (n : Int)) (.int .i64 (n : Int))).run Try.prog W = .ok (.slice (some ⟨W.heap.size, 0, none⟩) n n) (W.alloc (.cells (zrow n) 3)) := fun W => make_ints n W (by omega)
  go_enter Try.func56, Try.ntmps56
  go_wp2_with fail
  clear HK
  have hO : OwnI (w.alloc (.cells (zrow n) 3)) w.heap.size (.slice (some ⟨w.heap.size, 0, none⟩) n n) (nums (L.map f) 0) := by
    rw [nums_zero, List.length_map, hll.out]
    exact own_zrow (Block.new w _ _) (Nat.le_refl _) hn
  have hb0 := below_a1 w (.cells (zrow n) 3)
  go_loopw [16] (fun i wr => ∃ k : Nat, k ≤ n ∧ i = .int .i64 k ∧ OwnI wr w.heap.size (.slice (some ⟨w.heap.size, 0, none⟩) n n) (nums (L.map f) k) ∧ Below w.heap.size w wr) (fun i _ => n - (intOf i).toNat)
  case atStart => exact ⟨0, Nat.zero_le _, rfl, hO, hb0⟩
  case round =>
    obtain ⟨k, hk, rfl, hR, hbe⟩ := hrel
    clear hO hb0
    by_cases hlt : k < n
    · obtain ⟨b, o, q, A1, n1, c1, A2, n2, c2, A3, n3, c3, S, M, X, rfl, hb, g0, g1, g2, g3, hC, hq⟩ := (h.below hbe (Nat.le_refl _)).at_ hlt
      have i0 : (0 : Int) ≤ (k : Int) := by omega
      have i1 : (k : Int) < (n : Int) := by omega
      have hbx := below_a1 wr (.cells #[.int .i64 q, .slice A1 n1 c1, .slice A2 n2 c2, .slice A3 n3 c3] 42)
      have hR1 := hR.alloc (.cells #[.int .i64 q, .slice A1 n1 c1, .slice A2 n2 c2, .slice A3 n3 c3] 42)
      have hB := Block.new wr 42 #[.int .i64 q, .slice A1 n1 c1, .slice A2 n2 c2, .slice A3 n3 c3]
      have hbW := hbe.trans (hbx.mono hbe.size)
      have hCW := (hC.below hbx hbe.size).more hbW.size
      have HC := Lib.hid (HFF.out k hlt q A1 n1 c1 A2 n2 c2 A3 n3 c3 S M X _ hbW hCW hq.out)
      have hfx : Hid ((L.map f).getD k 0 = f (q, S, M, X)) := Lib.hid (by
        rw [List.getD_eq_getElem?_getD, List.getElem?_map, ← hq.out, List.getD_eq_getElem?_getD, List.getElem?_eq_getElem (by rw [hll.out]; exact hlt)]
        rfl)
      generalize f (q, S, M, X) = y at HC hfx
      have hnx : Hid ((nums (L.map f) k).set k y = nums (L.map f) (k + 1)) := Lib.hid (by rw [← hfx.out]; exact nums_set (by rw [List.length_map, hll.out]; exact hlt))
      have hkl : k < (nums (L.map f) k).length := by rw [nums_length _ _ (by rw [List.length_map, hll.out]; omega), List.length_map, hll.out]; exact hlt
      clear hC hCW hR hbx
      go_wp2_with fail
      generalize wr.alloc (.cells #[.int .i64 q, .slice A1 n1 c1, .slice A2 n2 c2, .slice A3 n3 c3] 42) = W at hR1 hB hbW HC ⊢
      have k0 : W.cell? ⟨wr.heap.size, 0, none⟩ = some (.int .i64 q) := hB.cell 0
      have k1 : W.cell? ⟨wr.heap.size, 1, none⟩ = some (.slice A1 n1 c1) := hB.cell 1
      have k2 : W.cell? ⟨wr.heap.size, 2, none⟩ = some (.slice A2 n2 c2) := hB.cell 2
      have k3 : W.cell? ⟨wr.heap.size, 3, none⟩ = some (.slice A3 n3 c3) := hB.cell 3
      clear g0 g1 g2 g3 hB
      go_wp2_with fail
      refine HC.out.mono ?_
      rintro e w2 ⟨rfl, hb2⟩
      have hR2 := hR1.below hb2 (Nat.le_refl _)
      have hbe2 := hbW.trans (hb2.mono hbW.size)
      have s0 := hR2.cell_ k hkl
      have s1 := hR2.free k
      have hN : Hid (OwnI (w2.setCell ⟨w.heap.size, k, none⟩ (.int .i64 y)) w.heap.size (.slice (some ⟨w.heap.size, 0, none⟩) n n) (nums (L.map f) (k + 1))) := Lib.hid (by rw [← hnx.out]; exact hR2.set_ k y)
      have hNB := Lib.hid (hbe2.setCell (p := ⟨w.heap.size, k, none⟩) (Nat.le_refl _) (.int .i64 y))
      clear hR1 hR2 hb2 hbW hbe hbe2 HC k0 k1 k2 k3
      go_wp2_with fail
      go_roundw
      case rel => exact ⟨k + 1, by omega, by go_num, hN.out, hNB.out⟩
      case measure => simp [intOf]; omega
    · obtain rfl : k = n := by omega
      have hA : OwnI wr w.heap.size (.slice (some ⟨w.heap.size, 0, none⟩) k k) (L.map f) := by
        have h1 := nums_all (L.map f)
        rw [List.length_map, hll.out] at h1
        rwa [h1] at hR
      have hH := hA.has
      obtain ⟨s, hsd⟩ : ∃ s, sumI (L.map f) = s := ⟨_, rfl⟩
      have HS2 := HS.out
      rw [hsd] at HS2
      have HS3 := Lib.hid HS2
      have hsd := Lib.hid hsd
      clear HS2 HS hR hA
      by_cases hw : wIn s
      · have HT := Lib.hid (total_any _ k k _ wr hH hn HI.out (s / 4294967296) (s % 4294967296) 0 (.inl ⟨by rw [hsd.out]; exact hw, by rw [hsd.out], by rw [hsd.out], rfl⟩))
        have hwm : wMay (s / 4294967296) (s % 4294967296) := (wIn_may s).2 hw
        clear hH
        go_wp2_with fail
        refine HT.out.mono ?_
        rintro e w2 ⟨rfl, hb2⟩
        have hbe2 := hbe.trans (hb2.mono hbe.size)
        have hbx := below_a1 w2 (.cells #[.int .i64 (s / 4294967296), .int .i64 (s % 4294967296)] 115)
        have hbe3 := hbe2.trans (hbx.mono hbe2.size)
        clear hb2 hbe HT
        have hI := Lib.hid fun W => int_sum (s / 4294967296) (s % 4294967296) W hwm z x (by
          rw [wNum_is]
          rcases HS3.out with ⟨⟨a, b⟩, c, d⟩ | ⟨a, c, d⟩
          · exact .inl ⟨a, b, c, d⟩
          · exact .inr ⟨a, c, d⟩)
        clear hwm hw
        go_wp2_with fail
        refine (hI.out _).mono ?_
        rintro e w3 ⟨rfl, hb3⟩
        have hbe4 := hbe3.trans (hb3.mono hbe3.size)
        clear hb3 hI
        go_wp2_with fail
        go_ret2
        exact ⟨rfl, hbe4⟩
      · have HT := Lib.hid (total_any _ k k _ wr hH hn HI.out 0 0 14 (.inr ⟨by rw [hsd.out]; exact hw, rfl, rfl, rfl⟩))
        have hzx : z = 0 ∧ x = 14 := by
          rcases HS3.out with ⟨h1, _⟩ | ⟨_, h1, h2⟩
          · unfold is64 at h1
            unfold wIn at hw
            omega
          · exact ⟨h1, h2⟩
        obtain ⟨rfl, rfl⟩ := hzx
        clear hH hw HS3
        go_wp2_with fail
        refine HT.out.mono ?_
        rintro e w2 ⟨rfl, hb2⟩
        have hbe2 := hbe.trans (hb2.mono hbe.size)
        have hbx := below_a1 w2 (.cells #[.int .i64 0, .int .i64 0] 115)
        have hbe3 := hbe2.trans (hbx.mono hbe2.size)
        clear hb2 hbe HT
        go_wp2_with fail
        go_ret2
        exact ⟨rfl, hbe3⟩

/-- The Mins, the Maxs of a measure of those that are not empty, behind the first one's. -/
def loL (L : List PC) (i : Nat) : List Int := (L.getD 0 zeroC).2.2.1.getD i 0 :: (fullC L).map fun c => c.2.2.1.getD i 0
def hiL (L : List PC) (i : Nat) : List Int := (L.getD 0 zeroC).2.2.2.getD i 0 :: (fullC L).map fun c => c.2.2.2.getD i 0
/-- .. among the first k. -/
def loK (L : List PC) (i k : Nat) : List Int := (L.getD 0 zeroC).2.2.1.getD i 0 :: (fullC (L.take k)).map fun c => c.2.2.1.getD i 0
def hiK (L : List PC) (i k : Nat) : List Int := (L.getD 0 zeroC).2.2.2.getD i 0 :: (fullC (L.take k)).map fun c => c.2.2.2.getD i 0
theorem fullC_take {L : List PC} {k : Nat} (hk : k < L.length) : fullC (L.take (k + 1)) = fullC (L.take k) ++ if (L.getD k zeroC).1 ≠ 0 then [L.getD k zeroC] else [] := by
  unfold fullC
  rw [List.take_add_one, List.filter_append, List.getElem?_eq_getElem hk, List.getD_eq_getElem?_getD, List.getElem?_eq_getElem hk]
  simp only [Option.toList_some, Option.getD_some, List.filter_cons, List.filter_nil]
  congr 1
  by_cases h : L[k].1 = 0 <;> simp [h]
theorem loK_full {L : List PC} {i k : Nat} (hk : k < L.length) (h : (L.getD k zeroC).1 ≠ 0) : minL (loK L i (k + 1)) = leS (minL (loK L i k)) ((L.getD k zeroC).2.2.1.getD i 0) := by
  unfold loK leS
  rw [fullC_take hk, if_pos h, List.map_append, ← List.cons_append]
  exact minL_snoc (by simp) _
theorem hiK_full {L : List PC} {i k : Nat} (hk : k < L.length) (h : (L.getD k zeroC).1 ≠ 0) : maxL (hiK L i (k + 1)) = grS (maxL (hiK L i k)) ((L.getD k zeroC).2.2.2.getD i 0) := by
  unfold hiK grS
  rw [fullC_take hk, if_pos h, List.map_append, ← List.cons_append]
  exact maxL_snoc (by simp) _
theorem loK_none {L : List PC} {i k : Nat} (hk : k < L.length) (h : (L.getD k zeroC).1 = 0) : loK L i (k + 1) = loK L i k := by
  unfold loK
  rw [fullC_take hk, if_neg (by simpa using h), List.append_nil]
theorem hiK_none {L : List PC} {i k : Nat} (hk : k < L.length) (h : (L.getD k zeroC).1 = 0) : hiK L i (k + 1) = hiK L i k := by
  unfold hiK
  rw [fullC_take hk, if_neg (by simpa using h), List.append_nil]

set_option maxRecDepth 100000 in
set_option maxHeartbeats 2000000 in
theorem ends_any {A : Option Addr} {n c : Nat} {L : List PC} {w : World} (h : HasCs w w.heap.size A n c L) (i m : Nat) (him : i < m) (hm2 : m ≤ 2) (h0 : 0 < n)
    (HL : ∀ k, k < n → 0 ≤ (L.getD k zeroC).1 ∧ (L.getD k zeroC).2.2.1.length = m ∧ (L.getD k zeroC).2.2.2.length = m) {a b : Int} (ha : a = minL (loL L i)) (hb : b = maxL (hiL L i)) :
    Calls Try.prog 59 #[.slice A n c, .int .i64 (i : Int)] w fun e w' => e = .returned (.tuple #[.int .i64 a, .int .i64 b]) ∧ Below w.heap.size w w' := by
  have hlm := h.lenMax
  have hll := Lib.hid h.len
  have HLL := Lib.hid HL
  have HA := Lib.hid ha
  have HB := Lib.hid hb
  clear HL ha hb
  obtain ⟨p, o, q, A1, n1, c1, A2, n2, c2, A3, n3, c3, S, M, X, rfl, hp, g0, g1, g2, g3, hC, hq⟩ := h.at_ h0
  rw [show o + 0 * 4 + 2 = o + 2 from by omega] at g2
  rw [show o + 0 * 4 + 3 = o + 3 from by omega] at g3
  have hl0 := HLL.out 0 h0
  rw [hq.out] at hl0
  obtain ⟨_, hl2, hl3⟩ := hl0
  have e2 : n2 = m := by rw [← hC.m.len]; exact hl2
  have e3 : n3 = m := by rw [← hC.x.len]; exact hl3
  subst e2
  obtain rfl := e3
  obtain ⟨b2, o2, lo, rfl, _, cm, em⟩ := hC.m.at_ him
  obtain ⟨b3, o3, hi, rfl, _, cx, ex⟩ := hC.x.at_ him
  have HE : Hid (lo = minL (loK L i 0) ∧ hi = maxL (hiK L i 0)) := Lib.hid (by
    unfold loK hiK
    rw [hq.out]
    exact ⟨em.out, ex.out⟩)
  have i0 : (0 : Int) ≤ (i : Int) := by omega
  have i1 : (i : Int) < (n3 : Int) := by omega
  have i2 : (0 : Int) < (n : Int) := by omega
  clear g0 g1 hC hl2 hl3
  go_enter Try.func59, Try.ntmps59
  go_wp2_with fail
  go_quiet (fail)
  have hb0 : Below w.heap.size w (w.drewN nq) := below_drewN (Below.refl _ _) _
  generalize w.drewN nq = w0 at hb0 ⊢
  clear g2 g3 cm cx i2
  go_wp2_with fail
  go_loopw [6, 7, 26] (fun a b j wr => ∃ (k : Nat) (x y : Int), k ≤ n ∧ a = .int .i64 x ∧ b = .int .i64 y ∧ j = .int .i64 k ∧ Hid (x = minL (loK L i k) ∧ y = maxL (hiK L i k)) ∧ Below w.heap.size w wr) (fun _ _ j _ => n - (intOf j).toNat)
  case atStart => exact ⟨0, lo, hi, Nat.zero_le _, rfl, rfl, rfl, HE, hb0⟩
  case round =>
    obtain ⟨k, x, y, hk, rfl, rfl, rfl, hxy, hbe⟩ := hrel
    clear hb0 HE
    by_cases hlt : k < n
    · obtain ⟨p', o', q', A1, n1, c1, A2, n2, c2, A3, n3', c3, S, M, X, he, hp', g0, g1, g2, g3, hC, hq⟩ := (h.below hbe (Nat.le_refl _)).at_ hlt
      injection he with he
      injection he with he1 he2
      subst he1 he2
      have hl0 := HLL.out k hlt
      rw [hq.out] at hl0
      obtain ⟨hq0, hl2, hl3⟩ := hl0
      have e2 : n2 = n3 := by rw [← hC.m.len]; exact hl2
      have e3 : n3' = n3 := by rw [← hC.x.len]; exact hl3
      subst e2
      obtain rfl := e3
      have hq0 : 0 ≤ q' := hq0
      have j0 : (0 : Int) ≤ (k : Int) := by omega
      have j1 : (k : Int) < (n : Int) := by omega
      have hbx := below_a1 wr (.cells #[.int .i64 q', .slice A1 n1 c1, .slice A2 n3' c2, .slice A3 n3' c3] 42)
      have hB := Block.new wr 42 #[.int .i64 q', .slice A1 n1 c1, .slice A2 n3' c2, .slice A3 n3' c3]
      have hbW := hbe.trans (hbx.mono hbe.size)
      have hCW := hC.below hbx hbe.size
      clear hC hbx hl2 hl3
      go_wp2_with fail
      generalize wr.alloc (.cells #[.int .i64 q', .slice A1 n1 c1, .slice A2 n3' c2, .slice A3 n3' c3] 42) = W at hB hbW hCW ⊢
      clear g0 g1 g2 g3
      have k0 : W.cell? ⟨wr.heap.size, 0, none⟩ = some (.int .i64 q') := hB.cell 0
      have k1 : W.cell? ⟨wr.heap.size, 1, none⟩ = some (.slice A1 n1 c1) := hB.cell 1
      have k2 : W.cell? ⟨wr.heap.size, 2, none⟩ = some (.slice A2 n3' c2) := hB.cell 2
      have k3 : W.cell? ⟨wr.heap.size, 3, none⟩ = some (.slice A3 n3' c3) := hB.cell 3
      by_cases hf : 0 < q'
      · have hX : Hid (leS x (M.getD i 0) = minL (loK L i (k + 1)) ∧ grS y (X.getD i 0) = maxL (hiK L i (k + 1))) := Lib.hid (by
          have hne : (L.getD k zeroC).1 ≠ 0 := by rw [hq.out]; show q' ≠ 0; omega
          rw [loK_full (by rw [hll.out]; exact hlt) hne, hiK_full (by rw [hll.out]; exact hlt) hne, ← hxy.out.1, ← hxy.out.2, hq.out]
          exact ⟨rfl, rfl⟩)
        go_wp2_with fail
        refine (filled_any q' A1 n1 c1 A2 n3' c2 A3 n3' c3 _ (r := true) (by simpa using hf)).mono ?_
        rintro e w2 ⟨rfl, hb2⟩
        have hbe2 := hbW.trans (hb2.mono hbW.size)
        have hB2 := hB.below hb2 hB.lt
        have hC2 := hCW.below hb2 hbW.size
        obtain ⟨b2, o2, lo', rfl, _, cm, em⟩ := hC2.m.at_ him
        obtain ⟨b3, o3, hi', rfl, _, cx, ex⟩ := hC2.x.at_ him
        rw [← em.out, ← ex.out] at hX
        have l2 : w2.cell? ⟨wr.heap.size, 2, none⟩ = some (.slice (some ⟨b2, o2, none⟩) n3' c2) := hB2.cell 2
        have l3 : w2.cell? ⟨wr.heap.size, 3, none⟩ = some (.slice (some ⟨b3, o3, none⟩) n3' c3) := hB2.cell 3
        clear k0 k1 k2 k3 hB hCW hB2 hC2 hb2 em ex hbW
        go_wp2_with fail
        go_quiet (first | (go_at_call 46; exact quietS (lesser_any x lo' _)) | (go_at_call 47; exact quietS (greater_any y hi' _)))
        have hbe3 : Below w.heap.size w (w2.drewN nq) := below_drewN hbe2 _
        generalize w2.drewN nq = w3 at hbe3 ⊢
        clear l2 l3 cm cx hbe2
        go_wp2_with fail
        go_roundw
        case rel => exact ⟨k + 1, _, _, by omega, rfl, rfl, by go_num, hX, hbe3⟩
        case measure => simp [intOf]; omega
      · have hX : Hid (x = minL (loK L i (k + 1)) ∧ y = maxL (hiK L i (k + 1))) := Lib.hid (by
          have hne : (L.getD k zeroC).1 = 0 := by rw [hq.out]; show q' = 0; omega
          rw [loK_none (by rw [hll.out]; exact hlt) hne, hiK_none (by rw [hll.out]; exact hlt) hne]
          exact hxy.out)
        go_wp2_with fail
        refine (filled_any q' A1 n1 c1 A2 n3' c2 A3 n3' c3 _ (r := false) (by simpa using hf)).mono ?_
        rintro e w2 ⟨rfl, hb2⟩
        have hbe2 := hbW.trans (hb2.mono hbW.size)
        clear k0 k1 k2 k3 hB hCW hb2 hbW
        go_wp2_with fail
        go_roundw
        case rel => exact ⟨k + 1, _, _, by omega, rfl, rfl, by go_num, hX, hbe2⟩
        case measure => simp [intOf]; omega
    · obtain rfl : k = n := by omega
      have e1 : x = a := by rw [HA.out, hxy.out.1]; unfold loK loL; rw [List.take_of_length_le (by rw [hll.out]; exact Nat.le_refl _)]
      have e2 : y = b := by rw [HB.out, hxy.out.2]; unfold hiK hiL; rw [List.take_of_length_le (by rw [hll.out]; exact Nat.le_refl _)]
      subst e1 e2
      go_wp2_with fail
      go_ret2
      exact ⟨rfl, hbe⟩
end Go.Proofs.Yteifhgcjmjihgaa
namespace Go.Proofs.Yteifhgcjmjihgaa
set_option maxRecDepth 100000
open Go.RowKit

/-! ### Cells that may be, of one number of measures -/
def AllC (m : Nat) (L : List PC) : Prop := ∀ k, k < L.length → cMay (L.getD k zeroC) ∧ (L.getD k zeroC).2.1.length = m
def sumsAt (L : List PC) (k : Nat) : List Int := L.map fun c => c.2.1.getD k 0
/-- What cells are together, of which the first is not empty. -/
def togC (m : Nat) (L : List PC) : PC × Int := if cMay (sumC m L) then (sumC m L, 0) else (zeroC, 14)
theorem cMay_count {c : PC} (h : cMay c) : 0 ≤ c.1 ∧ c.1 ≤ 1099511627776 := by
  obtain ⟨n, S, M, X⟩ := c
  obtain ⟨_, _, _, h1, h2, _⟩ := (cMay_iff n S M X).1 h
  exact ⟨h1, h2⟩
theorem cMay_in {c : PC} (h : cMay c) {k : Nat} (hk : k < c.2.1.length) : inS (c.2.1.getD k 0) := by
  obtain ⟨n, S, M, X⟩ := c
  obtain ⟨_, _, _, _, _, h3⟩ := (cMay_iff n S M X).1 h
  rcases h3 k hk with ⟨_, h, _⟩ | ⟨_, _, _, _, h, _⟩
  · have h : S.getD k 0 = 0 := h
    show inS (S.getD k 0)
    rw [h]
    exact ⟨by decide, by decide⟩
  · exact h
theorem AllC.mem {m : Nat} {L : List PC} (h : AllC m L) : ∀ c ∈ L, cMay c ∧ c.2.1.length = m := by
  intro c hc
  obtain ⟨k, hk, rfl⟩ := List.mem_iff_getElem.1 hc
  have := h k hk
  rwa [List.getD_eq_getElem?_getD, List.getElem?_eq_getElem hk] at this
theorem AllC.i64c {m : Nat} {L : List PC} (h : AllC m L) : I64 (L.map fun c => c.1) := by
  intro x hx
  obtain ⟨c, hc, rfl⟩ := List.mem_map.1 hx
  have := cMay_count (h.mem c hc).1
  show -9223372036854775808 ≤ c.1 ∧ c.1 ≤ 9223372036854775807
  omega
theorem AllC.i64s {m : Nat} {L : List PC} (h : AllC m L) {k : Nat} (hk : k < m) : I64 (sumsAt L k) := by
  intro x hx
  obtain ⟨c, hc, rfl⟩ := List.mem_map.1 hx
  obtain ⟨h1, h2⟩ := h.mem c hc
  have := cMay_in h1 (k := k) (by omega)
  unfold inS at this
  show -9223372036854775808 ≤ c.2.1.getD k 0 ∧ c.2.1.getD k 0 ≤ 9223372036854775807
  omega
theorem sumI_count : ∀ {l : List Int}, (∀ x ∈ l, 0 ≤ x ∧ x ≤ 1099511627776) → 0 ≤ sumI l ∧ sumI l ≤ 1099511627776 * (l.length : Int) := by
  intro l
  induction l with
  | nil => intro _; simp [sumI]
  | cons x l ih =>
    intro h
    have h1 := h x (by simp)
    have h2 := ih fun y hy => h y (by simp [hy])
    simp only [sumI, List.length_cons]
    omega
theorem AllC.count {m : Nat} {L : List PC} (h : AllC m L) (hn : L.length ≤ 1000000) : 0 ≤ sumI (L.map fun c => c.1) ∧ is64 (sumI (L.map fun c => c.1)) := by
  have h1 := sumI_count (l := L.map fun c => c.1) (by
    intro x hx
    obtain ⟨c, hc, rfl⟩ := List.mem_map.1 hx
    exact cMay_count (h.mem c hc).1)
  rw [List.length_map] at h1
  unfold is64
  omega
theorem sumC_get {m k : Nat} (L : List PC) (h : k < m) : (sumC m L).2.1.getD k 0 = sumI (sumsAt L k) ∧ (sumC m L).2.2.1.getD k 0 = minL ((fullC L).map fun c => c.2.2.1.getD k 0) ∧ (sumC m L).2.2.2.getD k 0 = maxL ((fullC L).map fun c => c.2.2.2.getD k 0) := by
  simp [sumC, sumsAt, List.getD_eq_getElem?_getD, h]
theorem sumC_length (m : Nat) (L : List PC) : (sumC m L).2.1.length = m ∧ (sumC m L).2.2.1.length = m ∧ (sumC m L).2.2.2.length = m := by simp [sumC]
theorem togC_far {m k : Nat} {L : List PC} (hk : k < m) (h : ¬ is64 (sumI (sumsAt L k))) : togC m L = (zeroC, 14) := by
  unfold togC
  rw [if_neg]
  intro hc
  have := cMay_in hc (k := k) (by rw [(sumC_length m L).1]; exact hk)
  rw [(sumC_get L hk).1] at this
  apply h
  unfold inS at this
  unfold is64
  omega
theorem full_first {L : List PC} (h0 : 0 < L.length) (h : 0 < (L.getD 0 zeroC).1) : L.getD 0 zeroC ∈ fullC L := by
  rw [List.getD_eq_getElem?_getD, List.getElem?_eq_getElem h0] at h ⊢
  refine List.mem_filter.2 ⟨List.getElem_mem h0, ?_⟩
  simp only [Option.getD_some] at h ⊢
  simp only [decide_eq_true_eq]
  omega
theorem loL_is {L : List PC} (h0 : 0 < L.length) (h : 0 < (L.getD 0 zeroC).1) (i : Nat) : minL (loL L i) = minL ((fullC L).map fun c => c.2.2.1.getD i 0) := by
  have hm := full_first h0 h
  refine minL_same (by simp [loL]) (fun e => ?_) fun x => ?_
  · rw [List.map_eq_nil_iff] at e; rw [e] at hm; cases hm
  · unfold loL
    rw [List.mem_cons]
    exact ⟨fun hx => hx.elim (fun e => by rw [e]; exact List.mem_map.2 ⟨_, hm, rfl⟩) id, .inr⟩
theorem hiL_is {L : List PC} (h0 : 0 < L.length) (h : 0 < (L.getD 0 zeroC).1) (i : Nat) : maxL (hiL L i) = maxL ((fullC L).map fun c => c.2.2.2.getD i 0) := by
  have hm := full_first h0 h
  refine maxL_same (by simp [hiL]) (fun e => ?_) fun x => ?_
  · rw [List.map_eq_nil_iff] at e; rw [e] at hm; cases hm
  · unfold hiL
    rw [List.mem_cons]
    exact ⟨fun hx => hx.elim (fun e => by rw [e]; exact List.mem_map.2 ⟨_, hm, rfl⟩) id, .inr⟩
end Go.Proofs.Yteifhgcjmjihgaa
namespace Go.Proofs.Yteifhgcjmjihgaa
set_option maxRecDepth 100000
open Go.RowKit

/-- What 'total' tells: the sum, and whether it may be one of a cell. -/
def TotIs (s z : Int) (b : Bool) : Prop := (inS s ∧ z = s ∧ b = true) ∨ (¬ inS s ∧ b = false ∧ ((is64 s ∧ z = s) ∨ (¬ is64 s ∧ z = 0)))
theorem totIs_any (s : Int) : ∃ z b, TotIs s z b := by
  by_cases h : inS s
  · exact ⟨_, _, .inl ⟨h, rfl, rfl⟩⟩
  · by_cases h2 : is64 s
    · exact ⟨_, _, .inr ⟨h, rfl, .inl ⟨h2, rfl⟩⟩⟩
    · exact ⟨_, _, .inr ⟨h, rfl, .inr ⟨h2, rfl⟩⟩⟩
set_option maxRecDepth 100000 in
set_option maxHeartbeats 2000000 in
theorem refTot_any {A : Option Addr} {n c : Nat} {l : List Int} {w : World} (h : HasI w w.heap.size A n c l) (hn : n ≤ 10000) (hx : I64 l) {z : Int} {b : Bool} (hs : TotIs (sumI l) z b) :
    Calls Try.prog 52 #[.slice A n c] w fun e w' => e = .returned (.tuple #[.int .i64 z, .bool b]) ∧ Below w.heap.size w w' := by
  have hfar : wFar (sumI l) := by
    have h1 := sumI_bounds hx
    have h2 := h.len
    unfold wFar
    omega
  obtain ⟨s, hsd⟩ : ∃ s, sumI l = s := ⟨_, rfl⟩
  rw [hsd] at hs hfar
  have HT := Lib.hid (refTotal_any A n c l w h hx)
  rw [hsd] at HT
  have HF := Lib.hid hfar
  have HS := Lib.hid hs
  clear hs hfar hsd hx h
  go_enter Try.func52, Try.ntmps52
  go_wp2_with fail
  refine HT.out.mono ?_
  rintro e w1 ⟨⟨v, rfl, ho⟩, hb1⟩
  obtain ⟨g, k, rfl, hrow, -, -⟩ := bits_shape ho
  clear HT ho
  by_cases h6 : is64 s
  · have hI := Lib.hid (refIntW_any _ _ _ s _ hrow HF.out s 0 (.inl ⟨h6.1, h6.2, rfl, rfl⟩))
    have hz : z = s := by
      rcases HS.out with ⟨_, h, _⟩ | ⟨_, _, ⟨_, h⟩ | ⟨h, _⟩⟩
      · exact h
      · exact h
      · exact absurd h6 h
    subst hz
    have hb : Hid (inB z 4611686018427387904 = b) := Lib.hid (by
      rw [inB_S]
      rcases HS.out with ⟨h, _, h2⟩ | ⟨h, h2, _⟩
      · rw [h2]; simpa using h
      · rw [h2]; simpa using h)
    clear hrow h6
    go_wp2_with fail
    refine hI.out.mono ?_
    rintro e w2 ⟨rfl, q, hw2⟩
    have hb2 : Below w.heap.size w w2 := by rw [hw2]; exact below_drewN hb1 q
    clear hw2 hI hb1
    go_wp2_with fail
    refine (refIn_any z 4611686018427387904 _ (by decide) (by decide)).mono ?_
    rintro e w3 ⟨rfl, rfl⟩
    rw [hb.out]
    go_wp2_with fail
    go_ret2
    exact ⟨rfl, hb2⟩
  · have hI := Lib.hid (refIntW_any _ _ _ s _ hrow HF.out 0 14 (.inr ⟨h6, rfl, rfl⟩))
    obtain ⟨rfl, rfl⟩ : z = 0 ∧ b = false := by
      rcases HS.out with ⟨h, _⟩ | ⟨_, h, ⟨h2, _⟩ | ⟨_, h2⟩⟩
      · unfold inS at h
        unfold is64 at h6
        omega
      · exact absurd h2 h6
      · exact ⟨h2, h⟩
    clear hrow h6
    go_wp2_with fail
    refine hI.out.mono ?_
    rintro e w2 ⟨rfl, q, hw2⟩
    have hb2 : Below w.heap.size w w2 := by rw [hw2]; exact below_drewN hb1 q
    clear hw2 hI hb1
    go_wp2_with fail
    go_ret2
    exact ⟨rfl, hb2⟩

end Go.Proofs.Yteifhgcjmjihgaa
namespace Go.Proofs.Yteifhgcjmjihgaa
set_option maxRecDepth 100000
open Go.RowKit

/-- The sum's variable s and its rows, the first k1, k2, k3 measures told. -/
structure TogAt (w0 w : World) (s : Nat) (q : Int) (g1 g2 g3 m k1 k2 k3 : Nat) (S M X : List Int) : Prop where
  blk : Block w s 42 #[.int .i64 q, .slice (some ⟨g1, 0, none⟩) m m, .slice (some ⟨g2, 0, none⟩) m m, .slice (some ⟨g3, 0, none⟩) m m]
  rs : OwnI w w0.heap.size (.slice (some ⟨g1, 0, none⟩) m m) (nums S k1)
  rm : OwnI w w0.heap.size (.slice (some ⟨g2, 0, none⟩) m m) (nums M k2)
  rx : OwnI w w0.heap.size (.slice (some ⟨g3, 0, none⟩) m m) (nums X k3)
  bel : Below w0.heap.size w0 w
  n1 : g1 ≠ s
  n2 : g2 ≠ s
  n3 : g3 ≠ s
  hs : w0.heap.size ≤ s
section
variable {w0 w w' : World} {s g1 g2 g3 m k1 k2 k3 : Nat} {q : Int} {S M X : List Int}
theorem TogAt.below (h : TogAt w0 w s q g1 g2 g3 m k1 k2 k3 S M X) (hb : Below w.heap.size w w') : TogAt w0 w' s q g1 g2 g3 m k1 k2 k3 S M X :=
  ⟨h.blk.below hb h.blk.lt, h.rs.below hb (Nat.le_refl _), h.rm.below hb (Nat.le_refl _), h.rx.below hb (Nat.le_refl _), h.bel.trans (hb.mono h.bel.size), h.n1, h.n2, h.n3, h.hs⟩
theorem TogAt.own_ne {g : Nat} (h : g ≠ s) : (Value.slice (some ⟨g, 0, none⟩) m m).ownBlock ≠ some s := by
  intro e
  injection e with e
  exact h e
theorem TogAt.setq (h : TogAt w0 w s q g1 g2 g3 m k1 k2 k3 S M X) (q' : Int) : TogAt w0 (w.setCell ⟨s, 0, none⟩ (.int .i64 q')) s q' g1 g2 g3 m k1 k2 k3 S M X :=
  ⟨h.blk.set_ 0 _, h.rs.other (own_ne h.n1) _, h.rm.other (own_ne h.n2) _, h.rx.other (own_ne h.n3) _, h.bel.setCell (p := ⟨s, 0, none⟩) h.hs _, h.n1, h.n2, h.n3, h.hs⟩
theorem TogAt.set1 (h : TogAt w0 w s q g1 g2 g3 m k1 k2 k3 S M X) (h12 : g1 ≠ g2) (h13 : g1 ≠ g3) (hl : S.length = m) (hk : k1 < m) (y : Int) (hy : S.getD k1 0 = y) :
    TogAt w0 (w.setCell ⟨g1, k1, none⟩ (.int .i64 y)) s q g1 g2 g3 m (k1 + 1) k2 k3 S M X := by
  subst hy
  exact ⟨h.blk.elsewhere g1 k1 _ h.n1, by rw [← nums_set (by omega)]; exact h.rs.set_ k1 _, h.rm.other (own_ne (Ne.symm h12)) _, h.rx.other (own_ne (Ne.symm h13)) _, h.bel.setCell (p := ⟨g1, k1, none⟩) (h.rs.lt g1 rfl).1 _, h.n1, h.n2, h.n3, h.hs⟩
theorem TogAt.set2 (h : TogAt w0 w s q g1 g2 g3 m k1 k2 k3 S M X) (h12 : g1 ≠ g2) (h23 : g2 ≠ g3) (hl : M.length = m) (hk : k2 < m) (y : Int) (hy : M.getD k2 0 = y) :
    TogAt w0 (w.setCell ⟨g2, k2, none⟩ (.int .i64 y)) s q g1 g2 g3 m k1 (k2 + 1) k3 S M X := by
  subst hy
  exact ⟨h.blk.elsewhere g2 k2 _ h.n2, h.rs.other (own_ne h12) _, by rw [← nums_set (by omega)]; exact h.rm.set_ k2 _, h.rx.other (own_ne (Ne.symm h23)) _, h.bel.setCell (p := ⟨g2, k2, none⟩) (h.rm.lt g2 rfl).1 _, h.n1, h.n2, h.n3, h.hs⟩
theorem TogAt.set3 (h : TogAt w0 w s q g1 g2 g3 m k1 k2 k3 S M X) (h13 : g1 ≠ g3) (h23 : g2 ≠ g3) (hl : X.length = m) (hk : k3 < m) (y : Int) (hy : X.getD k3 0 = y) :
    TogAt w0 (w.setCell ⟨g3, k3, none⟩ (.int .i64 y)) s q g1 g2 g3 m k1 k2 (k3 + 1) S M X := by
  subst hy
  exact ⟨h.blk.elsewhere g3 k3 _ h.n3, h.rs.other (own_ne h13) _, h.rm.other (own_ne h23) _, by rw [← nums_set (by omega)]; exact h.rx.set_ k3 _, h.bel.setCell (p := ⟨g3, k3, none⟩) (h.rx.lt g3 rfl).1 _, h.n1, h.n2, h.n3, h.hs⟩
end
/-- A cell of four written whole. -/
abbrev put4 (w : World) (r : Nat) (a b c d : Value) : World := (((w.setCell ⟨r, 0, none⟩ a).setCell ⟨r, 1, none⟩ b).setCell ⟨r, 2, none⟩ c).setCell ⟨r, 3, none⟩ d
section
variable {w w' : World} {r base : Nat} {a b c d a' b' c' d' v1 v2 v3 : Value} {T : TypeId} {S M X : List Int}
theorem Block.put4_ (h : Block w r T #[a, b, c, d]) (a' b' c' d' : Value) : Block (put4 w r a' b' c' d') r T #[a', b', c', d'] := (((h.set_ 0 a').set_ 1 b').set_ 2 c').set_ 3 d'
theorem OwnC.put4_ (h : OwnC w base v1 v2 v3 S M X) (hr : r < base) (a' b' c' d' : Value) : OwnC (put4 w r a' b' c' d') base v1 v2 v3 S M X := by
  have key : ∀ {v : Value} {l : List Int} {w : World}, OwnI w base v l → ∀ (j : Nat) (u : Value), OwnI (w.setCell ⟨r, j, none⟩ u) base v l := fun h j u => h.other (fun e => by have := (h.lt r e).1; omega) u
  exact ⟨key (key (key (key h.s 0 a') 1 b') 2 c') 3 d', key (key (key (key h.m 0 a') 1 b') 2 c') 3 d', key (key (key (key h.x 0 a') 1 b') 2 c') 3 d'⟩
theorem below_put4 {B : Nat} (h : Below B w w') (hr : B ≤ r) (a' b' c' d' : Value) : Below B w (put4 w' r a' b' c' d') :=
  (((h.setCell (p := ⟨r, 0, none⟩) hr _).setCell (p := ⟨r, 1, none⟩) hr _).setCell (p := ⟨r, 2, none⟩) hr _).setCell (p := ⟨r, 3, none⟩) hr _
end

set_option maxRecDepth 100000 in
set_option maxHeartbeats 2000000 in
theorem together_any {A : Option Addr} {n c m : Nat} {L : List PC} {w : World} (h : HasCs w w.heap.size A n c L) (h0 : 0 < n) (hn : n ≤ 1000000) (hm : m ≤ 2) (HL : AllC m L) (hf : 0 < (L.getD 0 zeroC).1) :
    Calls Try.prog 39 #[.slice A n c] w (TellC w (togC m L)) := by
  have hlm := h.lenMax
  have hll := Lib.hid h.len
  have HLL := Lib.hid HL
  have Hf := Lib.hid hf
  obtain ⟨b, o, q, A1, n1, c1, A2, n2, c2, A3, n3, c3, S, M, X, rfl, hb, g0, g1, g2, g3, hC, hq⟩ := h.at_ h0
  rw [show o + 0 * 4 + 1 = o + 1 from by omega] at g1
  obtain rfl : n1 = m := by
    have := (HL 0 (by rw [hll.out]; exact h0)).2
    rw [hq.out] at this
    rw [← hC.s.len]; exact this
  clear HL hf g0 g2 g3 hC hq
  have i2 : (0 : Int) < (n : Int) := by omega
  have hs1 : ((w.alloc (.cells #[.int .i64 0, .slice none 0 0, .slice none 0 0, .slice none 0 0] 42))).cell? ⟨b, o + 1, none⟩ = some (.slice A1 n1 c1) := ((below_a1 w _).cell (p := ⟨b, o + 1, none⟩) hb).trans g1
  clear g1
  go_enter Try.func39, Try.ntmps39
  go_wp2_with fail
  refine (empty_any (n1 : Int) _ (m := n1) (by omega)).mono ?_
  rintro e w1 ⟨⟨e1, e2, e3, rfl, ho, d12, d13, d23⟩, hb1⟩
  have hR := Block.new w 42 #[.int .i64 0, .slice none 0 0, .slice none 0 0, .slice none 0 0]
  have hbw := below_a1 w (.cells #[.int .i64 0, .slice none 0 0, .slice none 0 0, .slice none 0 0] 42)
  have hrs : w.heap.size < (w.alloc (.cells #[.int .i64 0, .slice none 0 0, .slice none 0 0, .slice none 0 0] 42)).heap.size := by simp
  clear hs1
  generalize w.alloc (.cells #[.int .i64 0, .slice none 0 0, .slice none 0 0, .slice none 0 0] 42) = w0 at ho hb1 hR hbw hrs ⊢
  obtain ⟨Q, Ss, Ms, Xs, hs⟩ : ∃ Q Ss Ms Xs, sumC n1 L = (Q, Ss, Ms, Xs) := ⟨_, _, _, _, rfl⟩
  have HSC := Lib.hid hs
  have hQ : Hid (sumI (L.map fun c => c.1) = Q) := Lib.hid (congrArg (·.1) hs)
  obtain ⟨l1, l2, l3⟩ : Ss.length = n1 ∧ Ms.length = n1 ∧ Xs.length = n1 := by
    have := sumC_length n1 L
    rw [hs] at this
    exact this
  clear hs
  have T1 : TogAt w0 (w1.alloc (.cells #[.int .i64 0, .slice (some ⟨e1, 0, none⟩) n1 n1, .slice (some ⟨e2, 0, none⟩) n1 n1, .slice (some ⟨e3, 0, none⟩) n1 n1] 42)) w1.heap.size 0 e1 e2 e3 n1 0 0 0 Ss Ms Xs :=
    ⟨Block.new w1 _ _, by rw [nums_zero, l1]; exact ho.s.alloc _, by rw [nums_zero, l2]; exact ho.m.alloc _, by rw [nums_zero, l3]; exact ho.x.alloc _, below_then hb1 (below_a1 w1 _),
      Nat.ne_of_lt (ho.s.lt e1 rfl).2, Nat.ne_of_lt (ho.m.lt e2 rfl).2, Nat.ne_of_lt (ho.x.lt e3 rfl).2, hb1.size⟩
  clear ho hb1
  go_wp2_with fail
  generalize w1.alloc (.cells #[.int .i64 0, .slice (some ⟨e1, 0, none⟩) n1 n1, .slice (some ⟨e2, 0, none⟩) n1 n1, .slice (some ⟨e3, 0, none⟩) n1 n1] 42) = w2 at T1 ⊢
  generalize w1.heap.size = s at T1 ⊢
  have hbw2 := hbw.trans (T1.bel.mono hbw.size)
  refine (ctotal_any (h.belowS hbw2) hn 57 #[] (fun c => c.1) (fun _ _ => rfl) (fun k hk q A1 n1 c1 A2 n2 c2 A3 n3 c3 S M X W hW hC hq => number_count q A1 n1 c1 A2 n2 c2 A3 n3 c3 W) HLL.out.i64c (z := Q) (x := 0) (.inl ⟨(HLL.out.count (by rw [hll.out]; exact hn)).2, hQ.out.symm, rfl⟩)).mono ?_
  rintro e w3 ⟨rfl, hb3⟩
  have T2 := T1.below hb3
  have s0 := T2.blk.cell 0
  have s1 := T2.blk.free 0
  have T3 := T2.setq Q
  clear T1 T2 hb3 hbw2
  have s2 := T3.blk.cell 1
  go_wp2_with fail
  generalize w3.setCell ⟨s, 0, none⟩ (.int .i64 Q) = w4 at T3 s2 ⊢
  clear s0 s1
  go_loopw [26] (fun i wr => ∃ k : Nat, k ≤ n1 ∧ i = .int .i64 k ∧ TogAt w0 wr s Q e1 e2 e3 n1 k k k Ss Ms Xs) (fun i _ => n1 - (intOf i).toNat)
  case atStart => exact ⟨0, Nat.zero_le _, rfl, T3⟩
  case round =>
    obtain ⟨k, hk, rfl, T4⟩ := hrel
    clear T3 s2
    by_cases hlt : k < n1
    · have T5 := T4.below (below_a1 wr (.cells #[.int .i64 (k : Int)] 3))
      have hB := Block.new wr 3 #[.int .i64 (k : Int)]
      have hkn : Hid (Ss.getD k 0 = sumI (sumsAt L k) ∧ Ms.getD k 0 = minL (loL L k) ∧ Xs.getD k 0 = maxL (hiL L k)) := Lib.hid (by
        have := sumC_get (m := n1) L hlt
        rw [HSC.out] at this
        rw [loL_is (by rw [hll.out]; exact h0) Hf.out, hiL_is (by rw [hll.out]; exact h0) Hf.out]
        exact this)
      have hbW := hbw.trans (T5.bel.mono hbw.size)
      have hsz := Lib.hid (World.block_lt_of_cell? _ _ (hB.cell 0 : _ = some (.int .i64 (k : Int))))
      go_wp2_with fail
      generalize wr.alloc (.cells #[.int .i64 (k : Int)] 3) = W at T5 hB hbW hsz ⊢
      have hIB : ¬ wr.heap.size = s := fun e => by
        have := T4.blk.lt
        omega
      have hi1 : ¬ e1 = wr.heap.size := fun e => by
        have := (T4.rs.lt e1 rfl).2
        omega
      have hi2 : ¬ e2 = wr.heap.size := fun e => by
        have := (T4.rm.lt e2 rfl).2
        omega
      have hi3 : ¬ e3 = wr.heap.size := fun e => by
        have := (T4.rx.lt e3 rfl).2
        omega
      generalize wr.heap.size = iB at hB hIB hi1 hi2 hi3 hsz ⊢
      have b0 : W.cell? ⟨iB, 0, none⟩ = some (.int .i64 (k : Int)) := hB.cell 0
      have s1 : W.cell? ⟨s, 1, none⟩ = some (.slice (some ⟨e1, 0, none⟩) n1 n1) := T5.blk.cell 1
      have i0 : (0 : Int) ≤ (k : Int) := by omega
      have i1 : (k : Int) < (n1 : Int) := by omega
      have q1 : ¬ e1 = s := T5.n1
      have q2 : ¬ s = e1 := fun e => q1 e.symm
      have q3 : ¬ iB = e1 := fun e => hi1 e.symm
      obtain ⟨z, x, hzx⟩ : ∃ z x : Int, Hid ((is64 (sumI (sumsAt L k)) ∧ z = sumI (sumsAt L k) ∧ x = 0) ∨ (¬ is64 (sumI (sumsAt L k)) ∧ z = 0 ∧ x = 14)) := by
        by_cases hi : is64 (sumI (sumsAt L k))
        · exact ⟨_, _, Lib.hid (.inl ⟨hi, rfl, rfl⟩)⟩
        · exact ⟨_, _, Lib.hid (.inr ⟨hi, rfl, rfl⟩)⟩
      have HT := Lib.hid (ctotal_any (w := W.drew) ((h.belowS hbW).drewN 1) hn 58 #[.pointer (some ⟨iB, 0, none⟩)] (fun c => c.2.1.getD k 0) (fun _ _ => rfl) (fun j hj q A1 m1 c1 A2 n2 c2 A3 n3 c3 S M X V hV hC hq => by
        have hm1 : k < m1 := by
          have := (HLL.out j (by rw [hll.out]; exact hj)).2
          rw [hq] at this
          rw [← hC.s.len]
          show k < S.length
          have : S.length = n1 := this
          omega
        exact number_sum hC hm1 ((hV.cell (p := ⟨iB, 0, none⟩) hsz.out).trans b0)) (HLL.out.i64s hlt) (z := z) (x := x) hzx.out)
      clear T4
      go_region_held3 (fun w' => w'.cell? ⟨s, 1, none⟩ = some (.slice (some ⟨e1, 0, none⟩) n1 n1) ∧ w'.cell? ⟨iB, 0, none⟩ = some (.int .i64 (k : Int)))
        (first
          | (refine ⟨?_, ?_⟩ <;> (go_keep; done))
          | (go_keep; done))
        (first
          | (go_at_call 56; refine HT.out.mono ?_; rintro e w5 ⟨rfl, hb5⟩; have hb6 := (show Below W.heap.size W W.drew from Below.drew (Below.refl _ _)).trans hb5; have T6 := T5.below hb6; have hB6 := hB.below hb6 hsz.out; have p1 := T6.blk.cell 1; have p2 := hB6.cell 0; have p3 := T6.rs.cell_ k (by rw [nums_length _ _ (by omega)]; omega); have p4 := T6.rs.free k))
      have hR6 := hR.below T6.bel hrs
      have hRe : ¬ e1 = w.heap.size := fun e => by
        have := (T6.rs.lt e1 rfl).1
        omega
      have hR7 := hR6.elsewhere e1 k (.int .i64 z) hRe
      rcases hzx.out with ⟨hs1, hs2, rfl⟩ | ⟨hs1, rfl, rfl⟩
      · have T7 := T6.set1 d12 d13 l1 hlt z (hkn.out.1.trans hs2.symm)
        have hB7 := hB6.elsewhere e1 k (.int .i64 z) hi1
        clear T5 T6 hB hB6 hbW HT p1 p2 p3 p4 hb5 hb6 s1 b0 hR6 hs2 hs1
        generalize w5.setCell ⟨e1, k, none⟩ (.int .i64 z) = w7 at T7 hB7 hR7 ⊢
        go_wp2_with fail
        obtain ⟨la, hla⟩ : ∃ la, Hid (Ms.getD k 0 = la) := ⟨_, Lib.hid rfl⟩
        obtain ⟨hb, hhb⟩ : ∃ hb, Hid (Xs.getD k 0 = hb) := ⟨_, Lib.hid rfl⟩
        have HE := Lib.hid (ends_any (w := w7.drew) ((h.belowS (hbw.trans (T7.bel.mono hbw.size))).drewN 1) k n1 hlt hm h0 (fun j hj => by
          have h1 := HLL.out j (by rw [hll.out]; exact hj)
          obtain ⟨h2, h3⟩ := h1
          exact ⟨(cMay_count h2).1, h2.2.1.trans h3, h2.2.2.1.trans h3⟩) (a := la) (b := hb) (hla.out.symm.trans hkn.out.2.1) (hhb.out.symm.trans hkn.out.2.2))
        have q4 : ¬ e2 = s := T7.n2
        have q5 : ¬ e3 = s := T7.n3
        have q6 : ¬ s = e2 := fun e => q4 e.symm
        have q7 : ¬ s = e3 := fun e => q5 e.symm
        have q8 : ¬ iB = e2 := fun e => hi2 e.symm
        have q9 : ¬ iB = e3 := fun e => hi3 e.symm
        have qa : ¬ e2 = e3 := d23
        have qb : ¬ e3 = e2 := fun e => d23 e.symm
        have s2 : w7.cell? ⟨s, 2, none⟩ = some (.slice (some ⟨e2, 0, none⟩) n1 n1) := T7.blk.cell 2
        have s3 : w7.cell? ⟨s, 3, none⟩ = some (.slice (some ⟨e3, 0, none⟩) n1 n1) := T7.blk.cell 3
        have b0 : w7.cell? ⟨iB, 0, none⟩ = some (.int .i64 (k : Int)) := hB7.cell 0
        have hsz7 := hB7.lt
        go_region_held3 (fun w' => w'.cell? ⟨s, 2, none⟩ = some (.slice (some ⟨e2, 0, none⟩) n1 n1) ∧ w'.cell? ⟨s, 3, none⟩ = some (.slice (some ⟨e3, 0, none⟩) n1 n1) ∧ w'.cell? ⟨iB, 0, none⟩ = some (.int .i64 (k : Int)))
          (first
            | (refine ⟨?_, ?_, ?_⟩ <;> (go_keep; done))
            | (go_keep; done))
          (first
            | (go_at_call 59; refine HE.out.mono ?_; rintro e w8 ⟨rfl, hb8⟩; have hb9 := (show Below w7.heap.size w7 w7.drew from Below.drew (Below.refl _ _)).trans hb8; have T8 := T7.below hb9; have hB8 := hB7.below hb9 hsz7; have p1 := T8.blk.cell 2; have p2 := T8.blk.cell 3; have p3 := hB8.cell 0; have p4 := T8.rm.cell_ k (by rw [nums_length _ _ (by omega)]; omega); have p5 := T8.rm.free k; have p6 := T8.rx.cell_ k (by rw [nums_length _ _ (by omega)]; omega); have p7 := T8.rx.free k))
        have T9 := (T8.set2 d12 d23 l2 hlt la hla.out).set3 d13 d23 l3 hlt hb hhb.out
        clear T7 T8 hB7 hB8 hb8 hb9 p1 p2 p3 p4 p5 p6 p7 s2 s3 b0 HE hR7
        generalize (w8.setCell ⟨e2, k, none⟩ (.int .i64 la)).setCell ⟨e3, k, none⟩ (.int .i64 hb) = w10 at T9 ⊢
        go_wp2_with fail
        go_roundw
        case rel => exact ⟨k + 1, by omega, by go_num, T9⟩
        case measure => simp [intOf]; omega
      · have hZ := Lib.hid (togC_far hlt hs1)
        have hbe := hbw.trans ((T6.bel.setCell (p := ⟨e1, k, none⟩) (T6.rs.lt e1 rfl).1 (.int .i64 0)).mono hbw.size)
        clear T5 T6 hB hB6 hbW HT p1 p2 p3 p4 hb5 hb6 s1 b0 hR6
        generalize w5.setCell ⟨e1, k, none⟩ (.int .i64 0) = w7 at hR7 hbe ⊢
        have r0 : w7.cell? ⟨w.heap.size, 0, none⟩ = some (.int .i64 0) := hR7.cell 0
        have r1 : w7.cell? ⟨w.heap.size, 1, none⟩ = some (.slice none 0 0) := hR7.cell 1
        have r2 : w7.cell? ⟨w.heap.size, 2, none⟩ = some (.slice none 0 0) := hR7.cell 2
        have r3 : w7.cell? ⟨w.heap.size, 3, none⟩ = some (.slice none 0 0) := hR7.cell 3
        have f0 := hR7.free 0
        have f1 := hR7.free 1
        have f2 := hR7.free 2
        have f3 := hR7.free 3
        have hRR := Lib.hid (hR7.put4_ (.int .i64 0) (.slice none 0 0) (.slice none 0 0) (.slice none 0 0))
        have hRB := Lib.hid (below_put4 hbe (Nat.le_refl _) (.int .i64 0) (.slice none 0 0) (.slice none 0 0) (.slice none 0 0))
        go_wp2_with fail
        refine bodyPost_ret (results_block2 rfl _ _ w.heap.size _ _ rfl hRR.out Try.underlying42 rfl info_cell) rfl ?_
        rw [hZ.out]
        exact ⟨⟨_, _, _, rfl, zeroC_own _ _⟩, hRB.out⟩
    · obtain rfl : k = n1 := by omega
      have hN1 : nums Ss k = Ss := by rw [← l1]; exact nums_all Ss
      have hN2 : nums Ms k = Ms := by rw [← l2]; exact nums_all Ms
      have hN3 : nums Xs k = Xs := by rw [← l3]; exact nums_all Xs
      have hO : OwnC wr w0.heap.size (.slice (some ⟨e1, 0, none⟩) k k) (.slice (some ⟨e2, 0, none⟩) k k) (.slice (some ⟨e3, 0, none⟩) k k) Ss Ms Xs :=
        ⟨by have := T4.rs; rwa [hN1] at this, by have := T4.rm; rwa [hN2] at this, by have := T4.rx; rwa [hN3] at this⟩
      have hC : HasC wr wr.heap.size _ _ _ _ _ _ _ _ _ Ss Ms Xs := ⟨hO.s.has, hO.m.has, hO.x.has⟩
      obtain ⟨r, hr⟩ : ∃ r : Bool, Hid (r = true ↔ cMay (Q, Ss, Ms, Xs)) := ⟨decide (cMay (Q, Ss, Ms, Xs)), Lib.hid (by simp)⟩
      have s0 : wr.cell? ⟨s, 0, none⟩ = some (.int .i64 Q) := T4.blk.cell 0
      have s1 : wr.cell? ⟨s, 1, none⟩ = some (.slice (some ⟨e1, 0, none⟩) k k) := T4.blk.cell 1
      have s2 : wr.cell? ⟨s, 2, none⟩ = some (.slice (some ⟨e2, 0, none⟩) k k) := T4.blk.cell 2
      have s3 : wr.cell? ⟨s, 3, none⟩ = some (.slice (some ⟨e3, 0, none⟩) k k) := T4.blk.cell 3
      have hM := Lib.hid (cellMay_any hC hr.out)
      have hR6 := hR.below T4.bel hrs
      have hbe := hbw.trans (T4.bel.mono hbw.size)
      have hbl := T4.blk
      have hrl := hR6.lt
      clear hN1 hN2 hN3 hC T4 hk hlt
      go_wp2_with fail
      refine hM.out.mono ?_
      rintro e w5 ⟨rfl, hb5⟩
      have hbe5 := hbe.trans (hb5.mono hbe.size)
      have hbl5 := hbl.below hb5 hbl.lt
      have hR5 := hR6.below hb5 hrl
      have hO5 := (hO.below hb5 (Nat.le_refl _)).low (Nat.le_of_lt hrs)
      have hO6 := hO.below hb5 (Nat.le_refl _)
      clear hM hbe hbl hR6 hO hb5 s0 s1 s2 s3
      have s0 : w5.cell? ⟨s, 0, none⟩ = some (.int .i64 Q) := hbl5.cell 0
      have s1 : w5.cell? ⟨s, 1, none⟩ = some (.slice (some ⟨e1, 0, none⟩) k k) := hbl5.cell 1
      have s2 : w5.cell? ⟨s, 2, none⟩ = some (.slice (some ⟨e2, 0, none⟩) k k) := hbl5.cell 2
      have s3 : w5.cell? ⟨s, 3, none⟩ = some (.slice (some ⟨e3, 0, none⟩) k k) := hbl5.cell 3
      have r0 : w5.cell? ⟨w.heap.size, 0, none⟩ = some (.int .i64 0) := hR5.cell 0
      have r1 : w5.cell? ⟨w.heap.size, 1, none⟩ = some (.slice none 0 0) := hR5.cell 1
      have r2 : w5.cell? ⟨w.heap.size, 2, none⟩ = some (.slice none 0 0) := hR5.cell 2
      have r3 : w5.cell? ⟨w.heap.size, 3, none⟩ = some (.slice none 0 0) := hR5.cell 3
      have f0 := hR5.free 0
      have f1 := hR5.free 1
      have f2 := hR5.free 2
      have f3 := hR5.free 3
      cases r
      · have hZ : Hid (togC k L = (zeroC, 14)) := Lib.hid (if_neg (by rw [HSC.out]; intro h; cases hr.out.2 h))
        have hRR := Lib.hid (hR5.put4_ (.int .i64 0) (.slice none 0 0) (.slice none 0 0) (.slice none 0 0))
        have hRB := Lib.hid (below_put4 hbe5 (Nat.le_refl _) (.int .i64 0) (.slice none 0 0) (.slice none 0 0) (.slice none 0 0))
        clear hO5 hO6
        go_wp2_with fail
        refine bodyPost_ret (results_block2 rfl _ _ w.heap.size _ _ rfl hRR.out Try.underlying42 rfl info_cell) rfl ?_
        rw [hZ.out]
        exact ⟨⟨_, _, _, rfl, zeroC_own _ _⟩, hRB.out⟩
      · have hZ : Hid (togC k L = ((Q, Ss, Ms, Xs), 0)) := Lib.hid (by
          unfold togC
          rw [HSC.out, if_pos (hr.out.1 rfl)])
        have hRR := Lib.hid (hR5.put4_ (.int .i64 Q) (.slice (some ⟨e1, 0, none⟩) k k) (.slice (some ⟨e2, 0, none⟩) k k) (.slice (some ⟨e3, 0, none⟩) k k))
        have hRB := Lib.hid (below_put4 hbe5 (Nat.le_refl _) (.int .i64 Q) (.slice (some ⟨e1, 0, none⟩) k k) (.slice (some ⟨e2, 0, none⟩) k k) (.slice (some ⟨e3, 0, none⟩) k k))
        have hRO := Lib.hid ((hO6.put4_ hrs (.int .i64 Q) (.slice (some ⟨e1, 0, none⟩) k k) (.slice (some ⟨e2, 0, none⟩) k k) (.slice (some ⟨e3, 0, none⟩) k k)).low (Nat.le_of_lt hrs))
        clear hO5 hO6
        go_wp2_with fail
        refine bodyPost_ret (results_block2 rfl _ _ w.heap.size _ _ rfl hRR.out Try.underlying42 rfl info_cell) rfl ?_
        rw [hZ.out]
        exact ⟨⟨_, _, _, rfl, hRO.out⟩, hRB.out⟩
end Go.Proofs.Yteifhgcjmjihgaa
namespace Go.Proofs.Yteifhgcjmjihgaa
set_option maxRecDepth 100000
open Go.RowKit

/-- What the reference's Empty tells. -/
def TellA (w : World) (m : Nat) (e : Ending) (w' : World) : Prop :=
  (∃ v1 v2 v3, e = .returned (.agg #[.int .i64 0, v1, v2, v3]) ∧ OwnC w' w.heap.size v1 v2 v3 (List.replicate m 0) (List.replicate m 0) (List.replicate m 0) ∧
    (∀ g, v1.ownBlock = some g → v2.ownBlock ≠ some g) ∧ (∀ g, v1.ownBlock = some g → v3.ownBlock ≠ some g) ∧ (∀ g, v2.ownBlock = some g → v3.ownBlock ≠ some g)) ∧ Below w.heap.size w w'
theorem repl_snoc (k : Nat) : List.replicate k (0 : Int) ++ [0] = List.replicate (k + 1) 0 := by rw [List.replicate_succ']

set_option maxRecDepth 100000 in
set_option maxHeartbeats 2000000 in
theorem refEmpty_any (x : Int) (w : World) {m : Nat} (hm : m = (min (max x 0) 2).toNat) :
    Calls Try.prog 49 #[.int .i64 x] w (TellA w m) := by
  have HM := Lib.hid hm
  have hm2 : m ≤ 2 := by omega
  clear hm
  go_enter Try.func49, Try.ntmps49
  go_wp2_with fail
  have hR := (Block.new w 42 #[.int .i64 0, .slice none 0 0, .slice none 0 0, .slice none 0 0]).alloc (.cells #[.int .i64 0, .slice none 0 0, .slice none 0 0, .slice none 0 0] 42)
  have hA := Acc.new (w0 := w) (Block.new (w.alloc (.cells #[.int .i64 0, .slice none 0 0, .slice none 0 0, .slice none 0 0] 42)) 42 #[.int .i64 0, .slice none 0 0, .slice none 0 0, .slice none 0 0]) (below_a2 w _ _) (by simp)
  rw [World.size_alloc] at hA
  generalize (w.alloc (.cells #[.int .i64 0, .slice none 0 0, .slice none 0 0, .slice none 0 0] 42)).alloc (.cells #[.int .i64 0, .slice none 0 0, .slice none 0 0, .slice none 0 0] 42) = W at hR hA ⊢
  have hrs : ¬ w.heap.size + 1 = w.heap.size := by omega
  generalize w.heap.size + 1 = s at hA hrs ⊢
  go_loopw [4] (fun i wr => ∃ (k : Nat) (v1 v2 v3 : Value), k ≤ m ∧ i = .int .i64 k ∧ Block wr w.heap.size 42 #[.int .i64 0, .slice none 0 0, .slice none 0 0, .slice none 0 0] ∧ Acc w wr s 0 v1 v2 v3 (List.replicate k 0) (List.replicate k 0) (List.replicate k 0)) (fun i _ => m - (intOf i).toNat)
  case atStart => exact ⟨0, _, _, _, Nat.zero_le _, rfl, hR, hA⟩
  case round =>
    obtain ⟨k, v1, v2, v3, hk, rfl, hR, hA⟩ := hrel
    obtain ⟨A1, n1, c1, rfl, _⟩ := hA.r1.formN
    obtain ⟨A2, n2, c2, rfl, _⟩ := hA.r2.formN
    obtain ⟨A3, n3, c3, rfl, _⟩ := hA.r3.formN
    by_cases hlt : k < m
    · have hx : (k : Int) < x := by have := HM.out; omega
      have h2 : (k : Int) < 2 := by omega
      have g1 : wr.cell? ⟨s, 1, none⟩ = some (.slice A1 n1 c1) := hA.blk.cell 1
      have hT : 42 ≠ 3 := by decide
      go_wp2_with (at_builtin; refine wpList_appI rfl _ _ rfl w.heap.size _ _ rfl (hA.alloc _).r1 _ rfl 0 (cell_lit _ _ _ _ (by simp)) (by simp; omega) (hA.alloc _).bel.size ?_)
      intro u1 w1 hO1 hG1
      obtain ⟨B1, l1, d1, rfl, _⟩ := hO1.formN
      have hR1 := ((hR.alloc _).app hT (hA.alloc _).r1 hG1).elsewhere s 1 (.slice B1 l1 d1) hrs
      obtain ⟨hB1, hA1⟩ := (hA.alloc _).app1 hO1 hG1
      have p0 := hB1.cell 1
      have p1 := hB1.free 1
      have p2 : (w1.setCell ⟨s, 1, none⟩ (.slice B1 l1 d1)).cell? ⟨s, 2, none⟩ = some (.slice A2 n2 c2) := hA1.blk.cell 2
      clear hA hR g1 hO1 hG1 hB1
      go_wp2_with (at_builtin; refine wpList_appI rfl _ _ rfl w.heap.size _ _ rfl (hA1.alloc _).r2 _ rfl 0 (cell_lit _ _ _ _ (by simp)) (by simp; omega) (hA1.alloc _).bel.size ?_)
      intro u2 w2 hO2 hG2
      obtain ⟨B2, l2, d2, rfl, _⟩ := hO2.formN
      have hR2 := ((hR1.alloc _).app hT (hA1.alloc _).r2 hG2).elsewhere s 2 (.slice B2 l2 d2) hrs
      obtain ⟨hB2, hA2⟩ := (hA1.alloc _).app2 hO2 hG2
      have q0 := hB2.cell 2
      have q1 := hB2.free 2
      have q2 : (w2.setCell ⟨s, 2, none⟩ (.slice B2 l2 d2)).cell? ⟨s, 3, none⟩ = some (.slice A3 n3 c3) := hA2.blk.cell 3
      clear hA1 hR1 p0 p1 p2 hO2 hG2 hB2
      go_wp2_with (at_builtin; refine wpList_appI rfl _ _ rfl w.heap.size _ _ rfl (hA2.alloc _).r3 _ rfl 0 (cell_lit _ _ _ _ (by simp)) (by simp; omega) (hA2.alloc _).bel.size ?_)
      intro u3 w3 hO3 hG3
      obtain ⟨B3, l3, d3, rfl, _⟩ := hO3.formN
      have hR3 := Lib.hid (((hR2.alloc _).app hT (hA2.alloc _).r3 hG3).elsewhere s 3 (.slice B3 l3 d3) hrs)
      obtain ⟨hB3, hA3⟩ := (hA2.alloc _).app3 hO3 hG3
      have t0 := hB3.cell 3
      have t1 := hB3.free 3
      rw [repl_snoc] at hA3
      have hA4 := Lib.hid hA3
      clear hA2 hR2 q0 q1 q2 hO3 hG3 hB3 hA3
      go_wp2_with fail
      go_roundw
      case rel => exact ⟨k + 1, _, _, _, by omega, by go_num, hR3.out, hA4.out⟩
      case measure => simp [intOf]; omega
    · obtain rfl : k = m := by omega
      have r0 : wr.cell? ⟨w.heap.size, 0, none⟩ = some (.int .i64 0) := hR.cell 0
      have r1 : wr.cell? ⟨w.heap.size, 1, none⟩ = some (.slice none 0 0) := hR.cell 1
      have r2 : wr.cell? ⟨w.heap.size, 2, none⟩ = some (.slice none 0 0) := hR.cell 2
      have r3 : wr.cell? ⟨w.heap.size, 3, none⟩ = some (.slice none 0 0) := hR.cell 3
      have f0 := hR.free 0
      have f1 := hR.free 1
      have f2 := hR.free 2
      have f3 := hR.free 3
      have s0 : wr.cell? ⟨s, 0, none⟩ = some (.int .i64 0) := hA.blk.cell 0
      have s1 : wr.cell? ⟨s, 1, none⟩ = some (.slice A1 n1 c1) := hA.blk.cell 1
      have s2 : wr.cell? ⟨s, 2, none⟩ = some (.slice A2 n2 c2) := hA.blk.cell 2
      have s3 : wr.cell? ⟨s, 3, none⟩ = some (.slice A3 n3 c3) := hA.blk.cell 3
      have hT : 42 ≠ 3 := by decide
      have hRR := Lib.hid (hR.put4_ (.int .i64 0) (.slice A1 n1 c1) (.slice A2 n2 c2) (.slice A3 n3 c3))
      have hRB := Lib.hid (below_put4 hA.bel (Nat.le_refl _) (.int .i64 0) (.slice A1 n1 c1) (.slice A2 n2 c2) (.slice A3 n3 c3))
      have key : ∀ {v : Value} {l : List Int} {w' : World}, OwnI w' w.heap.size v l → v.ownBlock ≠ some w.heap.size → ∀ (j : Nat) (u : Value), OwnI (w'.setCell ⟨w.heap.size, j, none⟩ u) w.heap.size v l := fun h hn j u => h.other hn u
      have n1' := hA.r1.ne_blk hR hT
      have n2' := hA.r2.ne_blk hR hT
      have n3' := hA.r3.ne_blk hR hT
      have hRO : Hid (OwnC (put4 wr w.heap.size (.int .i64 0) (.slice A1 n1 c1) (.slice A2 n2 c2) (.slice A3 n3 c3)) w.heap.size (.slice A1 n1 c1) (.slice A2 n2 c2) (.slice A3 n3 c3) (List.replicate k 0) (List.replicate k 0) (List.replicate k 0)) :=
        Lib.hid ⟨key (key (key (key hA.r1 n1' 0 _) n1' 1 _) n1' 2 _) n1' 3 _, key (key (key (key hA.r2 n2' 0 _) n2' 1 _) n2' 2 _) n2' 3 _, key (key (key (key hA.r3 n3' 0 _) n3' 1 _) n3' 2 _) n3' 3 _⟩
      have hD := Lib.hid (And.intro hA.d12 (And.intro hA.d13 hA.d23))
      clear hA hR key n1' n2' n3'
      by_cases hx : (k : Int) < x
      · have h2 : ¬ (k : Int) < 2 := by have := HM.out; omega
        go_wp2_with fail
        refine bodyPost_ret (results_block1 rfl _ _ w.heap.size _ _ rfl hRR.out Try.underlying42 rfl info_cell) rfl ?_
        exact ⟨⟨_, _, _, rfl, hRO.out, hD.out⟩, hRB.out⟩
      · go_wp2_with fail
        refine bodyPost_ret (results_block1 rfl _ _ w.heap.size _ _ rfl hRR.out Try.underlying42 rfl info_cell) rfl ?_
        exact ⟨⟨_, _, _, rfl, hRO.out, hD.out⟩, hRB.out⟩
end Go.Proofs.Yteifhgcjmjihgaa
namespace Go.Proofs.Yteifhgcjmjihgaa
set_option maxRecDepth 100000
open Go.RowKit

theorem cEmpty_len (m : Nat) : (cEmpty m).2.1.length = m := by simp [cEmpty]
set_option maxRecDepth 100000 in
set_option maxHeartbeats 4000000 in
theorem refMay_any5 {n : Int} {A1 A2 A3 : Option Addr} {n1 c1 n2 c2 n3 c3 : Nat} {S M X : List Int} {w : World} (h : HasC w w.heap.size A1 n1 c1 A2 n2 c2 A3 n3 c3 S M X) {r : Bool} (hr : r = true ↔ cMay (n, S, M, X)) :
    Calls Try.prog 30 #[cellV n A1 n1 c1 A2 n2 c2 A3 n3 c3] w fun e w' => e = .returned (.bool r) ∧ Below w.heap.size w w' := by
  have l1 := h.s.len
  have l2 := h.m.len
  have l3 := h.x.len
  have m1 := h.s.lenMax
  have m2 := h.m.lenMax
  have m3 := h.x.lenMax
  have R : Hid (r = true ↔ S.length ≤ 2 ∧ M.length = S.length ∧ X.length = S.length ∧ ((n, S, M, X) = cEmpty S.length ∨ fullMay (n, S, M, X))) := Lib.hid hr
  have LL := Lib.hid (And.intro l1 (And.intro l2 l3))
  have hbx := Lib.hid (below_a1 w (.cells #[.int .i64 n, .slice A1 n1 c1, .slice A2 n2 c2, .slice A3 n3 c3] 42))
  clear hr
  by_cases h1 : n1 ≤ 2
  · by_cases h2 : n2 = n1
    · by_cases h3 : n3 = n1
      · subst h2 h3
        clear l1 l2 l3
        obtain ⟨re, hre⟩ : ∃ re : Bool, Hid (re = true ↔ (n, S, M, X) = cEmpty n3) := ⟨decide ((n, S, M, X) = cEmpty n3), Lib.hid (by simp)⟩
        have R2 : Hid (r = true ↔ re = true ∨ fullMay (n, S, M, X)) := Lib.hid (by
          rw [R.out, LL.out.1, hre.out, LL.out.2.1, LL.out.2.2]
          exact ⟨fun h => h.2.2.2, fun h => ⟨h1, rfl, rfl, h⟩⟩)
        clear R
        have k2 : ((n3 : Int) != (n3 : Int)) = false := by simp
        go_enter Try.func30, Try.ntmps30
        go_wp2_with fail
        have hB := Block.new w 42 #[.int .i64 n, .slice A1 n3 c1, .slice A2 n3 c2, .slice A3 n3 c3]
        have hC := h.allocS (.cells #[.int .i64 n, .slice A1 n3 c1, .slice A2 n3 c2, .slice A3 n3 c3] 42)
        generalize w.alloc (.cells #[.int .i64 n, .slice A1 n3 c1, .slice A2 n3 c2, .slice A3 n3 c3] 42) = w1 at hbx hB hC ⊢
        have g0 : w1.cell? ⟨w.heap.size, 0, none⟩ = some (.int .i64 n) := hB.cell 0
        have g1 : w1.cell? ⟨w.heap.size, 1, none⟩ = some (.slice A1 n3 c1) := hB.cell 1
        have g2 : w1.cell? ⟨w.heap.size, 2, none⟩ = some (.slice A2 n3 c2) := hB.cell 2
        have g3 : w1.cell? ⟨w.heap.size, 3, none⟩ = some (.slice A3 n3 c3) := hB.cell 3
        clear h
        have HE := Lib.hid (refEmpty_any (n3 : Int) w1.drew (m := n3) (by omega))
        have K : Hid (∀ y, Below w1.heap.size w1 y → y.cell? ⟨w.heap.size, 0, none⟩ = some (.int .i64 n) ∧ y.cell? ⟨w.heap.size, 1, none⟩ = some (.slice A1 n3 c1) ∧ y.cell? ⟨w.heap.size, 2, none⟩ = some (.slice A2 n3 c2) ∧ y.cell? ⟨w.heap.size, 3, none⟩ = some (.slice A3 n3 c3)) :=
          Lib.hid fun y hy => ⟨(hB.below hy hB.lt).cell 0, (hB.below hy hB.lt).cell 1, (hB.below hy hB.lt).cell 2, (hB.below hy hB.lt).cell 3⟩
        go_region_held3 (fun w' => w'.cell? ⟨w.heap.size, 0, none⟩ = some (.int .i64 n) ∧ w'.cell? ⟨w.heap.size, 1, none⟩ = some (.slice A1 n3 c1) ∧ w'.cell? ⟨w.heap.size, 2, none⟩ = some (.slice A2 n3 c2) ∧ w'.cell? ⟨w.heap.size, 3, none⟩ = some (.slice A3 n3 c3))
          (first
            | exact K.out _ hd2
            | exact K.out _ hd1
            | exact K.out _ (Below.drew (Below.refl _ _)))
          (first
            | (go_at_call 49; refine HE.out.mono ?_; rintro e y1 ⟨⟨v1, v2, v3, rfl, ho, _⟩, hb1⟩; obtain ⟨B1, m1, d1, B2, m2, d2, B3, m3, d3, rfl, rfl, rfl, hF⟩ := ho.form; have hd1 := (show Below w1.heap.size w1 w1.drew from Below.drew (Below.refl _ _)).trans hb1)
            | (go_at_call 48; refine (refSame_any (hC.belowS hd1) hF (r := re) hre.out).mono ?_; rintro e y2 ⟨rfl, hb2⟩; have hd2 := below_then hd1 hb2))
        have hbz := hbx.out.trans (hd2.mono hbx.out.size)
        have hBz := hB.below hd2 hB.lt
        have hCz := hC.belowS hd2
        clear hd1 hd2 hb1 hb2 K HE hB hC hF ho g0 g1 g2 g3
        have g0 : y2.cell? ⟨w.heap.size, 0, none⟩ = some (.int .i64 n) := hBz.cell 0
        have g1 : y2.cell? ⟨w.heap.size, 1, none⟩ = some (.slice A1 n3 c1) := hBz.cell 1
        have g2 : y2.cell? ⟨w.heap.size, 2, none⟩ = some (.slice A2 n3 c2) := hBz.cell 2
        have g3 : y2.cell? ⟨w.heap.size, 3, none⟩ = some (.slice A3 n3 c3) := hBz.cell 3
        clear hBz hbx
        have HB := Lib.hid hbz
        clear hbz
        -- GEN
        cases re
        · by_cases c1 : n < 1
          · have Z : Hid (r = false) := Lib.hid (by
              rw [Bool.eq_false_iff]; intro h
              rcases R2.out.1 h with h1 | h1
              · cases h1
              · have h2 : 1 ≤ n := h1.1
                omega)
            go_wp2_with fail
            go_ret
            exact ⟨bool_of Z.out.symm, HB.out⟩
          · by_cases c2 : 1099511627776 < n
            · have Z : Hid (r = false) := Lib.hid (by
                rw [Bool.eq_false_iff]; intro h
                rcases R2.out.1 h with h1 | h1
                · cases h1
                · have h2 : n ≤ 1099511627776 := h1.2.1
                  omega)
              go_wp2_with fail
              go_ret
              exact ⟨bool_of Z.out.symm, HB.out⟩
            · go_wp2_with fail
              go_loopw [5] (fun i wr => ∃ k q : Nat, k ≤ n3 ∧ i = .int .i64 k ∧ wr = y2.drewN q ∧ Hid (∀ j, j < k → mMay n (S.getD j 0) (M.getD j 0) (X.getD j 0))) (fun i _ => n3 - (intOf i).toNat)
              case atStart => exact ⟨0, 0, Nat.zero_le _, rfl, rfl, Lib.hid fun j hj => absurd hj (by omega)⟩
              case round =>
                obtain ⟨k, q, hk, rfl, rfl, hJ⟩ := hrel
                by_cases hlt : k < n3
                · obtain ⟨b1, o1, s, rfl, _, cs, es⟩ := hCz.s.at_ hlt
                  obtain ⟨b2, o2, lo, rfl, _, cm, em⟩ := hCz.m.at_ hlt
                  obtain ⟨b3, o3, hi, rfl, _, cx, ex⟩ := hCz.x.at_ hlt
                  have i0 : (0 : Int) ≤ (k : Int) := by omega
                  have i1 : (k : Int) < (n3 : Int) := by omega
                  obtain ⟨b2, hb2⟩ : ∃ b, inB lo 2305843009213693952 = b := ⟨_, rfl⟩
                  obtain ⟨b3, hb3⟩ : ∃ b, inB hi 2305843009213693952 = b := ⟨_, rfl⟩
                  obtain ⟨b4, hb4⟩ : ∃ b, inB s 4611686018427387904 = b := ⟨_, rfl⟩
                  have K2 : Hid ((b2 = true ↔ inV lo) ∧ (b3 = true ↔ inV hi) ∧ (b4 = true ↔ inS s)) := Lib.hid ⟨by rw [← hb2, inB_V]; simp, by rw [← hb3, inB_V]; simp, by rw [← hb4, inB_S]; simp⟩
                  have I2 : Hid (∀ w, Calls Try.prog 50 #[.int .i64 lo, .int .i64 2305843009213693952] w fun e w' => e = .returned (.bool b2) ∧ w = w') := Lib.hid fun w => by have := refIn_any lo 2305843009213693952 w (by decide) (by decide); rwa [hb2] at this
                  have I3 : Hid (∀ w, Calls Try.prog 50 #[.int .i64 hi, .int .i64 2305843009213693952] w fun e w' => e = .returned (.bool b3) ∧ w = w') := Lib.hid fun w => by have := refIn_any hi 2305843009213693952 w (by decide) (by decide); rwa [hb3] at this
                  have I4 : Hid (∀ w, Calls Try.prog 50 #[.int .i64 s, .int .i64 4611686018427387904] w fun e w' => e = .returned (.bool b4) ∧ w = w') := Lib.hid fun w => by have := refIn_any s 4611686018427387904 w (by decide) (by decide); rwa [hb4] at this
                  clear hb2 hb3 hb4
                  by_cases e2 : lo ≤ hi
                  · have hd : decide (hi < lo) = false := by simpa using e2
                    cases b2
                    · have Z : Hid (r = false) := Lib.hid (by
                        rw [Bool.eq_false_iff]; intro h
                        rcases R2.out.1 h with h1 | h1
                        · cases h1
                        · have h2 := h1.2.2 k (by rw [LL.out.1]; exact hlt)
                          have h2 : mMay n (S.getD k 0) (M.getD k 0) (X.getD k 0) := h2
                          rw [← es.out, ← em.out, ← ex.out] at h2
                          have h3 := K2.out
                          revert h2
                          unfold mMay
                          exact fun h => by cases h3.1.2 h.2.1)
                      go_wp2_with fail
                      go_big_quiet ((first | (go_at_call 50; with_reducible exact quietQ I2.out _) | (go_at_call 50; with_reducible exact quietQ I3.out _) | (go_at_call 50; with_reducible exact quietQ I4.out _)))
                      go_wp2_with fail
                      go_ret
                      exact ⟨bool_of Z.out.symm, below_drewN (below_drewN HB.out _) _⟩
                    · cases b3
                      · have Z : Hid (r = false) := Lib.hid (by
                          rw [Bool.eq_false_iff]; intro h
                          rcases R2.out.1 h with h1 | h1
                          · cases h1
                          · have h2 := h1.2.2 k (by rw [LL.out.1]; exact hlt)
                            have h2 : mMay n (S.getD k 0) (M.getD k 0) (X.getD k 0) := h2
                            rw [← es.out, ← em.out, ← ex.out] at h2
                            have h3 := K2.out
                            revert h2
                            unfold mMay
                            exact fun h => by cases h3.2.1.2 h.2.2.1)
                        go_wp2_with fail
                        go_big_quiet ((first | (go_at_call 50; with_reducible exact quietQ I2.out _) | (go_at_call 50; with_reducible exact quietQ I3.out _) | (go_at_call 50; with_reducible exact quietQ I4.out _)))
                        go_wp2_with fail
                        go_ret
                        exact ⟨bool_of Z.out.symm, below_drewN (below_drewN HB.out _) _⟩
                      · cases b4
                        · have Z : Hid (r = false) := Lib.hid (by
                            rw [Bool.eq_false_iff]; intro h
                            rcases R2.out.1 h with h1 | h1
                            · cases h1
                            · have h2 := h1.2.2 k (by rw [LL.out.1]; exact hlt)
                              have h2 : mMay n (S.getD k 0) (M.getD k 0) (X.getD k 0) := h2
                              rw [← es.out, ← em.out, ← ex.out] at h2
                              have h3 := K2.out
                              revert h2
                              unfold mMay
                              exact fun h => by cases h3.2.2.2 h.2.2.2.1)
                          go_wp2_with fail
                          go_big_quiet ((first | (go_at_call 50; with_reducible exact quietQ I2.out _) | (go_at_call 50; with_reducible exact quietQ I3.out _) | (go_at_call 50; with_reducible exact quietQ I4.out _)))
                          go_wp2_with fail
                          go_ret
                          exact ⟨bool_of Z.out.symm, below_drewN (below_drewN HB.out _) _⟩
                        · by_cases e5 : n = 1
                          · have k5 : ((n : Int) == 1) = true := by simpa using e5
                            by_cases e6 : s = lo
                            · have k6 : ((s : Int) != lo) = false := by simpa using e6
                              by_cases e7 : s = hi
                              · have k7 : ((s : Int) != hi) = false := by simpa using e7
                                have hJ2 : Hid (∀ j, j < k + 1 → mMay n (S.getD j 0) (M.getD j 0) (X.getD j 0)) := Lib.hid fun j hj => by
                                  by_cases h : j < k
                                  · exact hJ.out j h
                                  · obtain rfl : j = k := by omega
                                    rw [← es.out, ← em.out, ← ex.out]
                                    obtain ⟨a2, a3, a4⟩ := K2.out
                                    exact ⟨e2, a2.1 rfl, a3.1 rfl, a4.1 rfl, fun _ => ⟨e6, e7⟩⟩
                                clear e5 e6 e7
                                go_wp2_with fail
                                go_big_quiet ((first | (go_at_call 50; with_reducible exact quietQ I2.out _) | (go_at_call 50; with_reducible exact quietQ I3.out _) | (go_at_call 50; with_reducible exact quietQ I4.out _)))
                                go_wp2_with fail
                                go_big_quiet (fail)
                                go_wp2_with fail
                                go_roundw
                                case rel => exact ⟨k + 1, _, by omega, by go_num, by first | rfl | simp only [World.drewN_drewN], hJ2⟩
                                case measure => simp [intOf]; omega
                              · have k7 : ((s : Int) != hi) = true := by simpa using e7
                                have Z : Hid (r = false) := Lib.hid (by
                                  rw [Bool.eq_false_iff]; intro h
                                  rcases R2.out.1 h with h1 | h1
                                  · cases h1
                                  · have h2 := h1.2.2 k (by rw [LL.out.1]; exact hlt)
                                    have h2 : mMay n (S.getD k 0) (M.getD k 0) (X.getD k 0) := h2
                                    rw [← es.out, ← em.out, ← ex.out] at h2
                                    have h3 := K2.out
                                    revert h2
                                    unfold mMay
                                    exact fun h => e7 (h.2.2.2.2 e5).2)
                                clear e5 e6 e7
                                go_wp2_with fail
                                go_big_quiet ((first | (go_at_call 50; with_reducible exact quietQ I2.out _) | (go_at_call 50; with_reducible exact quietQ I3.out _) | (go_at_call 50; with_reducible exact quietQ I4.out _)))
                                go_wp2_with fail
                                go_big_quiet (fail)
                                go_wp2_with fail
                                go_ret
                                exact ⟨bool_of Z.out.symm, below_drewN (below_drewN (below_drewN HB.out _) _) _⟩
                            · have k6 : ((s : Int) != lo) = true := by simpa using e6
                              have Z : Hid (r = false) := Lib.hid (by
                                rw [Bool.eq_false_iff]; intro h
                                rcases R2.out.1 h with h1 | h1
                                · cases h1
                                · have h2 := h1.2.2 k (by rw [LL.out.1]; exact hlt)
                                  have h2 : mMay n (S.getD k 0) (M.getD k 0) (X.getD k 0) := h2
                                  rw [← es.out, ← em.out, ← ex.out] at h2
                                  have h3 := K2.out
                                  revert h2
                                  unfold mMay
                                  exact fun h => e6 (h.2.2.2.2 e5).1)
                              clear e5 e6
                              go_wp2_with fail
                              go_big_quiet ((first | (go_at_call 50; with_reducible exact quietQ I2.out _) | (go_at_call 50; with_reducible exact quietQ I3.out _) | (go_at_call 50; with_reducible exact quietQ I4.out _)))
                              go_wp2_with fail
                              go_big_quiet (fail)
                              go_wp2_with fail
                              go_ret
                              exact ⟨bool_of Z.out.symm, below_drewN (below_drewN (below_drewN HB.out _) _) _⟩
                          · have k5 : ((n : Int) == 1) = false := by simpa using e5
                            have hJ2 : Hid (∀ j, j < k + 1 → mMay n (S.getD j 0) (M.getD j 0) (X.getD j 0)) := Lib.hid fun j hj => by
                              by_cases h : j < k
                              · exact hJ.out j h
                              · obtain rfl : j = k := by omega
                                rw [← es.out, ← em.out, ← ex.out]
                                obtain ⟨a2, a3, a4⟩ := K2.out
                                exact ⟨e2, a2.1 rfl, a3.1 rfl, a4.1 rfl, fun h => absurd h e5⟩
                            clear e5
                            go_wp2_with fail
                            go_big_quiet ((first | (go_at_call 50; with_reducible exact quietQ I2.out _) | (go_at_call 50; with_reducible exact quietQ I3.out _) | (go_at_call 50; with_reducible exact quietQ I4.out _)))
                            go_wp2_with fail
                            go_big_quiet (fail)
                            go_wp2_with fail
                            go_roundw
                            case rel => exact ⟨k + 1, _, by omega, by go_num, by first | rfl | simp only [World.drewN_drewN], hJ2⟩
                            case measure => simp [intOf]; omega
                  · have Z : Hid (r = false) := Lib.hid (by
                      rw [Bool.eq_false_iff]; intro h
                      rcases R2.out.1 h with h1 | h1
                      · cases h1
                      · have h2 := h1.2.2 k (by rw [LL.out.1]; exact hlt)
                        have h2 : mMay n (S.getD k 0) (M.getD k 0) (X.getD k 0) := h2
                        rw [← es.out, ← em.out, ← ex.out] at h2
                        have h3 := K2.out
                        revert h2
                        unfold mMay
                        exact fun h => e2 h.1)
                    have hd : decide (hi < lo) = true := by simpa using e2
                    go_wp2_with fail
                    go_big_quiet ((first | (go_at_call 50; with_reducible exact quietQ I2.out _) | (go_at_call 50; with_reducible exact quietQ I3.out _) | (go_at_call 50; with_reducible exact quietQ I4.out _)))
                    go_wp2_with fail
                    go_ret
                    exact ⟨bool_of Z.out.symm, below_drewN (below_drewN HB.out _) _⟩
                · obtain rfl : k = n3 := by omega
                  have Z : Hid (r = true) := Lib.hid (R2.out.2 (.inr ⟨by show 1 ≤ n; omega, by show n ≤ _; omega, fun i hi => hJ.out i (by have h5 : i < S.length := hi; rw [LL.out.1] at h5; exact h5)⟩))
                  go_wp2_with fail
                  go_ret
                  exact ⟨bool_of Z.out.symm, below_drewN HB.out _⟩
        · have Z : Hid (r = true) := Lib.hid (R2.out.2 (.inl rfl))
          go_wp2_with fail
          go_ret
          exact ⟨bool_of Z.out.symm, HB.out⟩
      · have Z : Hid (r = false) := Lib.hid (by rw [Bool.eq_false_iff]; intro h; have := (R.out.1 h).2.2.1; have := LL.out; omega)
        have e3 : ((n3 : Int) != (n1 : Int)) = true := by simp; omega
        subst h2
        have k2 : ((n2 : Int) != (n2 : Int)) = false := by simp
        clear l1 l2 l3 h3
        go_enter Try.func30, Try.ntmps30
        go_wp2_with fail
        go_ret
        exact ⟨bool_of Z.out.symm, hbx.out⟩
    · have Z : Hid (r = false) := Lib.hid (by rw [Bool.eq_false_iff]; intro h; have := (R.out.1 h).2.1; have := LL.out; omega)
      have e3 : ((n2 : Int) != (n1 : Int)) = true := by simp; omega
      clear l1 l2 l3 h2
      go_enter Try.func30, Try.ntmps30
      go_wp2_with fail
      go_ret
      exact ⟨bool_of Z.out.symm, hbx.out⟩
  · have Z : Hid (r = false) := Lib.hid (by rw [Bool.eq_false_iff]; intro h; have := (R.out.1 h).1; have := LL.out; omega)
    have e3 : (2 : Int) < (n1 : Int) := by omega
    clear l1 l2 l3 h1
    go_enter Try.func30, Try.ntmps30
    go_wp2_with fail
    go_ret
    exact ⟨bool_of Z.out.symm, hbx.out⟩
end Go.Proofs.Yteifhgcjmjihgaa
namespace Go.Proofs.Yteifhgcjmjihgaa
set_option maxRecDepth 100000
open Go.RowKit

theorem take_snoc {l : List Int} {k : Nat} (h : k < l.length) {y : Int} (hy : l.getD k 0 = y) : l.take k ++ [y] = l.take (k + 1) := by
  rw [List.take_add_one, ← hy, List.getD_eq_getElem?_getD, List.getElem?_eq_getElem h]
  rfl
theorem cMay_len {q : Int} {S M X : List Int} (h : cMay (q, S, M, X)) : S.length ≤ 2 ∧ M.length = S.length ∧ X.length = S.length ∧ 0 ≤ q ∧ q ≤ 1099511627776 := by
  obtain ⟨h1, h2, h3, h4, h5, _⟩ := (cMay_iff q S M X).1 h
  exact ⟨h1, h2, h3, h4, h5⟩

def TellM (w : World) (q q' : Int) (r : PC × Int) (e : Ending) (w' : World) : Prop := TellH w r e w' ∧ (q ≠ 0 ∧ q' ≠ 0 → TellC w r e w')
theorem merge_both {w w' : World} {r : PC × Int} {e : Ending} {q q' : Int} (h : TellC w r e w') : TellM w q q' r e w' := ⟨h.toH, fun _ => h⟩
set_option maxRecDepth 100000 in
set_option maxHeartbeats 4000000 in
/-- .. and new, if none of the two is empty. -/
theorem refMerge_two {q q' : Int} {A1 A2 A3 B1 B2 B3 : Option Addr} {n1 c1 n2 c2 n3 c3 m1 d1 m2 d2 m3 d3 : Nat} {S M X S' M' X' : List Int} {w : World}
    (ha0 : HasC w w.heap.size A1 n1 c1 A2 n2 c2 A3 n3 c3 S M X) (hb0 : HasC w w.heap.size B1 m1 d1 B2 m2 d2 B3 m3 d3 S' M' X') :
    Calls Try.prog 32 #[cellV q A1 n1 c1 A2 n2 c2 A3 n3 c3, cellV q' B1 m1 d1 B2 m2 d2 B3 m3 d3] w (TellM w q q' (cMerge (q, S, M, X) (q', S', M', X'))) := by
  have lA := Lib.hid (And.intro ha0.s.len (And.intro ha0.m.len ha0.x.len))
  have lB := Lib.hid (And.intro hb0.s.len (And.intro hb0.m.len hb0.x.len))
  have z1 := ha0.s.lenMax
  have z2 := hb0.s.lenMax
  have hbe := below_a3 w (.cells #[.int .i64 q, .slice A1 n1 c1, .slice A2 n2 c2, .slice A3 n3 c3] 42) (.cells #[.int .i64 q', .slice B1 m1 d1, .slice B2 m2 d2, .slice B3 m3 d3] 42) (.cells #[.int .i64 0, .slice none 0 0, .slice none 0 0, .slice none 0 0] 42)
  have hL := ((Block.new w 42 #[.int .i64 q, .slice A1 n1 c1, .slice A2 n2 c2, .slice A3 n3 c3]).alloc (.cells #[.int .i64 q', .slice B1 m1 d1, .slice B2 m2 d2, .slice B3 m3 d3] 42)).alloc (.cells #[.int .i64 0, .slice none 0 0, .slice none 0 0, .slice none 0 0] 42)
  have hK := (Block.new (w.alloc (.cells #[.int .i64 q, .slice A1 n1 c1, .slice A2 n2 c2, .slice A3 n3 c3] 42)) 42 #[.int .i64 q', .slice B1 m1 d1, .slice B2 m2 d2, .slice B3 m3 d3]).alloc (.cells #[.int .i64 0, .slice none 0 0, .slice none 0 0, .slice none 0 0] 42)
  have hR := Block.new ((w.alloc (.cells #[.int .i64 q, .slice A1 n1 c1, .slice A2 n2 c2, .slice A3 n3 c3] 42)).alloc (.cells #[.int .i64 q', .slice B1 m1 d1, .slice B2 m2 d2, .slice B3 m3 d3] 42)) 42 #[.int .i64 0, .slice none 0 0, .slice none 0 0, .slice none 0 0]
  simp only [World.size_alloc] at hK hR
  have ha := ha0.belowS hbe
  have hb := hb0.belowS hbe
  obtain ⟨r, hr⟩ : ∃ r : Bool, Hid (r = true ↔ cMay (q, S, M, X)) := ⟨decide (cMay (q, S, M, X)), Lib.hid (by simp)⟩
  obtain ⟨r', hr'⟩ : ∃ r : Bool, Hid (r = true ↔ cMay (q', S', M', X')) := ⟨decide (cMay (q', S', M', X')), Lib.hid (by simp)⟩
  go_enter Try.func32, Try.ntmps32
  go_wp2_with fail
  generalize ((w.alloc (.cells #[.int .i64 q, .slice A1 n1 c1, .slice A2 n2 c2, .slice A3 n3 c3] 42)).alloc (.cells #[.int .i64 q', .slice B1 m1 d1, .slice B2 m2 d2, .slice B3 m3 d3] 42)).alloc (.cells #[.int .i64 0, .slice none 0 0, .slice none 0 0, .slice none 0 0] 42) = w1 at hbe hL hK hR ha hb ⊢
  have hp3 : w.heap.size ≤ w.heap.size + 1 + 1 := by omega
  obtain ⟨p2, hp2⟩ : ∃ p, Hid (w.heap.size + 1 = p) := ⟨_, Lib.hid rfl⟩
  obtain ⟨p3, hpp3⟩ : ∃ p, Hid (w.heap.size + 1 + 1 = p) := ⟨_, Lib.hid rfl⟩
  rw [hpp3.out] at hR hp3 ⊢
  rw [hp2.out] at hK ⊢
  refine (refMay_any5 (n := q) ha (r := r) hr.out).mono ?_
  rintro e w2 ⟨rfl, hb1⟩
  have hL := hL.below hb1 hL.lt
  have hK := hK.below hb1 hK.lt
  have hR := hR.below hb1 hR.lt
  have ha := ha.belowS hb1
  have hb := hb.belowS hb1
  have hbe := below_then hbe hb1
  clear hb1
  have a0 : w2.cell? ⟨w.heap.size, 0, none⟩ = some (.int .i64 q) := hL.cell 0
  have a1 : w2.cell? ⟨w.heap.size, 1, none⟩ = some (.slice A1 n1 c1) := hL.cell 1
  have a2 : w2.cell? ⟨w.heap.size, 2, none⟩ = some (.slice A2 n2 c2) := hL.cell 2
  have a3 : w2.cell? ⟨w.heap.size, 3, none⟩ = some (.slice A3 n3 c3) := hL.cell 3
  have k0 : w2.cell? ⟨p2, 0, none⟩ = some (.int .i64 q') := hK.cell 0
  have k1 : w2.cell? ⟨p2, 1, none⟩ = some (.slice B1 m1 d1) := hK.cell 1
  have k2 : w2.cell? ⟨p2, 2, none⟩ = some (.slice B2 m2 d2) := hK.cell 2
  have k3 : w2.cell? ⟨p2, 3, none⟩ = some (.slice B3 m3 d3) := hK.cell 3
  go_wp2_with fail
  refine (refMay_any5 (n := q') hb (r := r') hr'.out).mono ?_
  rintro e w3 ⟨rfl, hb1⟩
  have hL := hL.below hb1 hL.lt
  have hK := hK.below hb1 hK.lt
  have hR := hR.below hb1 hR.lt
  have ha := ha.belowS hb1
  have hb := hb.belowS hb1
  have hbe := below_then hbe hb1
  clear hb1 a0 a1 a2 a3 k0 k1 k2 k3
  have a0 : w3.cell? ⟨w.heap.size, 0, none⟩ = some (.int .i64 q) := hL.cell 0
  have a1 : w3.cell? ⟨w.heap.size, 1, none⟩ = some (.slice A1 n1 c1) := hL.cell 1
  have a2 : w3.cell? ⟨w.heap.size, 2, none⟩ = some (.slice A2 n2 c2) := hL.cell 2
  have a3 : w3.cell? ⟨w.heap.size, 3, none⟩ = some (.slice A3 n3 c3) := hL.cell 3
  have k0 : w3.cell? ⟨p2, 0, none⟩ = some (.int .i64 q') := hK.cell 0
  have k1 : w3.cell? ⟨p2, 1, none⟩ = some (.slice B1 m1 d1) := hK.cell 1
  have k2 : w3.cell? ⟨p2, 2, none⟩ = some (.slice B2 m2 d2) := hK.cell 2
  have k3 : w3.cell? ⟨p2, 3, none⟩ = some (.slice B3 m3 d3) := hK.cell 3
  have r0 : w3.cell? ⟨p3, 0, none⟩ = some (.int .i64 0) := hR.cell 0
  have r1 : w3.cell? ⟨p3, 1, none⟩ = some (.slice none 0 0) := hR.cell 1
  have r2 : w3.cell? ⟨p3, 2, none⟩ = some (.slice none 0 0) := hR.cell 2
  have r3 : w3.cell? ⟨p3, 3, none⟩ = some (.slice none 0 0) := hR.cell 3
  have f0 := hR.free 0
  have f1 := hR.free 1
  have f2 := hR.free 2
  have f3 := hR.free 3
  cases r
  · have hZ : Hid (cMerge (q, S, M, X) (q', S', M', X') = (zeroC, 1)) := Lib.hid (if_pos (.inl fun h => by cases hr.out.2 h))
    have hRR := Lib.hid (hR.put4_ (.int .i64 0) (.slice none 0 0) (.slice none 0 0) (.slice none 0 0))
    have hRB := Lib.hid (below_put4 hbe hp3 (.int .i64 0) (.slice none 0 0) (.slice none 0 0) (.slice none 0 0))
    go_wp2_with fail
    refine bodyPost_ret (results_block2 rfl _ _ p3 _ _ rfl hRR.out Try.underlying42 rfl info_cell) rfl ?_
    rw [hZ.out]
    exact merge_both ⟨⟨_, _, _, rfl, zeroC_own _ _⟩, hRB.out⟩
  · cases r'
    · have hZ : Hid (cMerge (q, S, M, X) (q', S', M', X') = (zeroC, 1)) := Lib.hid (if_pos (.inr (.inl fun h => by cases hr'.out.2 h)))
      have hRR := Lib.hid (hR.put4_ (.int .i64 0) (.slice none 0 0) (.slice none 0 0) (.slice none 0 0))
      have hRB := Lib.hid (below_put4 hbe hp3 (.int .i64 0) (.slice none 0 0) (.slice none 0 0) (.slice none 0 0))
      go_wp2_with fail
      refine bodyPost_ret (results_block2 rfl _ _ p3 _ _ rfl hRR.out Try.underlying42 rfl info_cell) rfl ?_
      rw [hZ.out]
      exact merge_both ⟨⟨_, _, _, rfl, zeroC_own _ _⟩, hRB.out⟩
    · have mA := cMay_len (hr.out.1 rfl)
      have mB := cMay_len (hr'.out.1 rfl)
      have hm2 : n1 ≤ 2 := by have := lA.out.1; omega
      obtain ⟨qa, qb⟩ : (0 ≤ q ∧ q ≤ 1099511627776) ∧ (0 ≤ q' ∧ q' ≤ 1099511627776) := ⟨mA.2.2.2, mB.2.2.2⟩
      have MA := Lib.hid mA
      have MB := Lib.hid mB
      clear mA mB
      by_cases hl : n1 = m1
      · have hll : Hid (S.length = S'.length) := Lib.hid (by have := lA.out.1; have := lB.out.1; omega)
        have hno : Hid (¬ (¬ cMay (q, S, M, X) ∨ ¬ cMay (q', S', M', X') ∨ (q, S, M, X).2.1.length ≠ (q', S', M', X').2.1.length)) := Lib.hid (by
          rintro (h | h | h)
          · exact h (hr.out.1 rfl)
          · exact h (hr'.out.1 rfl)
          · exact h hll.out)
        have LE : Hid (n1 = n2 ∧ n1 = n3 ∧ m1 = m2 ∧ m1 = m3) := Lib.hid (by have h := MA.out; have h1 := lA.out; have h' := MB.out; have h1' := lB.out; omega)
        have lA : Hid (S.length = n1 ∧ M.length = n1 ∧ X.length = n1) := Lib.hid (by have h := MA.out; have h1 := lA.out.1; omega)
        have lB : Hid (S'.length = m1 ∧ M'.length = m1 ∧ X'.length = m1) := Lib.hid (by have h := MB.out; have h1 := lB.out.1; omega)
        have kk : ((n1 : Int) != (m1 : Int)) = false := by simp; omega
        by_cases hq0 : q = 0
        · have HQ := Lib.hid hq0
          have hZ : Hid (cMerge (q, S, M, X) (q', S', M', X') = ((q', S', M', X'), 0)) := Lib.hid (by
            unfold cMerge
            rw [if_neg hno.out, if_pos (show (q, S, M, X).1 = 0 from hq0)])
          have e0 : ((q : Int) == 0) = true := by simpa using hq0
          clear hl
          have hRR := Lib.hid (hR.put4_ (.int .i64 q') (.slice B1 m1 d1) (.slice B2 m2 d2) (.slice B3 m3 d3))
          have hRB := Lib.hid (below_put4 hbe hp3 (.int .i64 q') (.slice B1 m1 d1) (.slice B2 m2 d2) (.slice B3 m3 d3))
          have hRO := Lib.hid ((hb0.below hRB.out (Nat.le_refl _)).more hRB.out.size)
          go_wp2_with fail
          refine bodyPost_ret (results_block2 rfl _ _ p3 _ _ rfl hRR.out Try.underlying42 rfl info_cell) rfl ?_
          rw [hZ.out]
          exact ⟨⟨⟨_, _, _, _, _, _, _, _, _, rfl, hRO.out⟩, hRB.out⟩, fun h => absurd HQ.out h.1⟩
        · by_cases hq0' : q' = 0
          · have HQ := Lib.hid hq0'
            have hZ : Hid (cMerge (q, S, M, X) (q', S', M', X') = ((q, S, M, X), 0)) := Lib.hid (by
              unfold cMerge
              rw [if_neg hno.out, if_neg (show ¬ (q, S, M, X).1 = 0 from hq0), if_pos (show (q', S', M', X').1 = 0 from hq0')])
            have e0 : ((q : Int) == 0) = false := by simpa using hq0
            have e1 : ((q' : Int) == 0) = true := by simpa using hq0'
            clear hl
            have hRR := Lib.hid (hR.put4_ (.int .i64 q) (.slice A1 n1 c1) (.slice A2 n2 c2) (.slice A3 n3 c3))
            have hRB := Lib.hid (below_put4 hbe hp3 (.int .i64 q) (.slice A1 n1 c1) (.slice A2 n2 c2) (.slice A3 n3 c3))
            have hRO := Lib.hid ((ha0.below hRB.out (Nat.le_refl _)).more hRB.out.size)
            go_wp2_with fail
            refine bodyPost_ret (results_block2 rfl _ _ p3 _ _ rfl hRR.out Try.underlying42 rfl info_cell) rfl ?_
            rw [hZ.out]
            exact ⟨⟨⟨_, _, _, _, _, _, _, _, _, rfl, hRO.out⟩, hRB.out⟩, fun h => absurd HQ.out h.2⟩
          · -- both are full
            have hlen : n1 = m1 := by have h := lA.out; have h' := lB.out; have h2 := hll.out; omega
            have hn2 : n1 ≤ 2 := hm2
            have iA : Hid (∀ k, k < n1 → inS (S.getD k 0) ∧ inS (S'.getD k 0)) := Lib.hid fun k hk => ⟨cMay_in (hr.out.1 rfl) (by show k < S.length; rw [lA.out.1]; exact hk), cMay_in (hr'.out.1 rfl) (by show k < S'.length; rw [lB.out.1, ← hlen]; exact hk)⟩
            obtain ⟨Ps, hPs⟩ : ∃ P, List.zipWith (· + ·) S S' = P := ⟨_, rfl⟩
            obtain ⟨Pm, hPm⟩ : ∃ P, List.zipWith min M M' = P := ⟨_, rfl⟩
            obtain ⟨Px, hPx⟩ : ∃ P, List.zipWith max X X' = P := ⟨_, rfl⟩
            have lP : Hid (Ps.length = n1 ∧ Pm.length = n1 ∧ Px.length = n1) := Lib.hid (by
              have h := lA.out
              have h' := lB.out
              rw [← hPs, ← hPm, ← hPx]
              simp only [List.length_zipWith]
              omega)
            have gP : Hid (∀ k, k < n1 → Ps.getD k 0 = S.getD k 0 + S'.getD k 0 ∧ Pm.getD k 0 = min (M.getD k 0) (M'.getD k 0) ∧ Px.getD k 0 = max (X.getD k 0) (X'.getD k 0)) := Lib.hid (by
              intro k hk
              have h := lA.out
              have h' := lB.out
              rw [← hPs, ← hPm, ← hPx]
              exact ⟨zip_getD _ h.1 (by omega) hk, zip_getD _ (show M.length = n1 by omega) (by omega) hk, zip_getD _ (show X.length = n1 by omega) (by omega) hk⟩)
            have hZp : Hid (cMerge (q, S, M, X) (q', S', M', X') = if (∀ k, k < n1 → inS (Ps.getD k 0)) ∧ q + q' ≤ 1099511627776 then ((q + q', Ps, Pm, Px), 0) else (zeroC, 14)) := Lib.hid (by
              unfold cMerge putC
              rw [if_neg hno.out, if_neg (show ¬ (q, S, M, X).1 = 0 from hq0), if_neg (show ¬ (q', S', M', X').1 = 0 from hq0')]
              show (if (∀ k, k < S.length → inS ((List.zipWith (· + ·) S S').getD k 0)) ∧ q + q' ≤ 1099511627776 then ((q + q', List.zipWith (· + ·) S S', List.zipWith min M M', List.zipWith max X X'), (0 : Int)) else (zeroC, 14)) = _
              rw [hPs, hPm, hPx, lA.out.1])
            clear hPs hPm hPx
            have e0 : ((q : Int) == 0) = false := by simpa using hq0
            have e1 : ((q' : Int) == 0) = false := by simpa using hq0'
            have hsum : IntKind.i64.wrap (q + q') = q + q' := IntWalk.i64_in _ (by omega)
            have en : n1 = n2 ∧ n1 = n3 ∧ m1 = m2 ∧ m1 = m3 := LE.out
            clear LE
            obtain ⟨en1, en2, en3, en4⟩ := en
            subst en1 en2 en3 en4
            subst hlen
            have kk : ((n1 : Int) != (n1 : Int)) = false := by simp
            go_wp2_with fail
            have hA := Acc.new (w0 := w3) (Block.new w3 42 #[.int .i64 (q + q'), .slice none 0 0, .slice none 0 0, .slice none 0 0]) (below_a1 w3 _) (Nat.le_refl _)
            clear hsum
            generalize hws : w3.alloc (.cells #[.int .i64 (q + q'), .slice none 0 0, .slice none 0 0, .slice none 0 0] 42) = ws at hA ⊢
            have hws := Lib.hid hws
            obtain ⟨s, hss⟩ : ∃ s, Hid (w3.heap.size = s) := ⟨_, Lib.hid rfl⟩
            have hA : Acc w3 ws s (q + q') (.slice none 0 0) (.slice none 0 0) (.slice none 0 0) (Ps.take 0) (Pm.take 0) (Px.take 0) := by rw [← hss.out]; exact hA
            have hA : Acc w3 ws s (q + q') (.slice none 0 0) (.slice none 0 0) (.slice none 0 0) (Ps.take 0) (Pm.take 0) (Px.take 0) := hA
            rw [hss.out]
            clear hr hr' a0 a1 a2 a3 k0 k1 k2 k3 r0 r1 r2 r3 f0 f1 f2 f3 e0 e1 kk
            go_loopw [9] (fun i wr => ∃ (k : Nat) (v1 v2 v3 : Value), k ≤ n1 ∧ i = .int .i64 k ∧ Hid (∀ j, j < k → inS (Ps.getD j 0)) ∧ Acc w3 wr s (q + q') v1 v2 v3 (Ps.take k) (Pm.take k) (Px.take k)) (fun i _ => n1 - (intOf i).toNat)
            case atStart => exact ⟨0, _, _, _, Nat.zero_le _, rfl, Lib.hid fun j hj => absurd hj (by omega), hA⟩
            case round =>
              obtain ⟨k, v1, v2, v3, hk, rfl, hJ, hT⟩ := hrel
              clear hA
              have hLr := hL.below hT.bel hL.lt
              have hKr := hK.below hT.bel hK.lt
              have hRr := hR.below hT.bel hR.lt
              have har := ha.below hT.bel (Nat.le_refl _)
              have hbr := hb.below hT.bel (Nat.le_refl _)
              have hzr := hT.bel.size
              have hber := hbe.trans (hT.bel.mono hbe.size)
              have a1 : wr.cell? ⟨w.heap.size, 1, none⟩ = some (.slice A1 n1 c1) := hLr.cell 1
              obtain ⟨E1, l1, d1', rfl, _⟩ := hT.r1.formN
              obtain ⟨E2, l2, d2', rfl, _⟩ := hT.r2.formN
              obtain ⟨E3, l3, d3', rfl, _⟩ := hT.r3.formN
              by_cases hlt : k < n1
              · obtain ⟨x1, o1, sa, rfl, hx1, ca, ea⟩ := har.s.at_ hlt
                obtain ⟨x2, o2, sb, rfl, hx2, cb, eb⟩ := hbr.s.at_ hlt
                obtain ⟨x3, o3, la, rfl, hx3, cla, ela⟩ := har.m.at_ hlt
                obtain ⟨x4, o4, lb, rfl, hx4, clb, elb⟩ := hbr.m.at_ hlt
                obtain ⟨x5, o5, ga, rfl, hx5, cga, ega⟩ := har.x.at_ hlt
                obtain ⟨x6, o6, gb, rfl, hx6, cgb, egb⟩ := hbr.x.at_ hlt
                have i0 : (0 : Int) ≤ (k : Int) := by omega
                have i1 : (k : Int) < (n1 : Int) := by omega
                have k1 : wr.cell? ⟨p2, 1, none⟩ = some (.slice (some ⟨x2, o2, none⟩) n1 d1) := hKr.cell 1
                obtain ⟨z, b, hs⟩ : ∃ z b, Hid (TotIs (sumI [sa, sb]) z b) := by
                  obtain ⟨z, b, h⟩ := totIs_any (sumI [sa, sb])
                  exact ⟨z, b, Lib.hid h⟩
                have hI2 : I64 [sa, sb] := by
                  obtain ⟨h1, h2⟩ := iA.out k hlt
                  rw [← ea.out, ← eb.out] at *
                  unfold inS at h1 h2
                  intro x hx
                  simp only [List.mem_cons, List.not_mem_nil, or_false] at hx
                  rcases hx with rfl | rfl <;> omega
                have HT := Lib.hid (refTot_any (w := (wr.alloc (.cells #[.int .i64 sa, .int .i64 sb] 3)).drew) (((HasI.litAt wr [sa, sb] #[.int .i64 sa, .int .i64 sb] rfl 3 (0, 0) 2 rfl (by decide) wr.heap.size rfl).more (by simp)).drew) (by decide) hI2 hs.out)
                have hP : Hid (Ps.getD k 0 = sa + sb ∧ Pm.getD k 0 = min la lb ∧ Px.getD k 0 = max ga gb) := Lib.hid (by
                  have := gP.out k hlt
                  rw [← ea.out, ← eb.out, ← ela.out, ← elb.out, ← ega.out, ← egb.out] at this
                  exact this)
                have K : Hid (∀ y, Below wr.heap.size wr y → y.cell? ⟨w.heap.size, 1, none⟩ = some (.slice (some ⟨x1, o1, none⟩) n1 c1) ∧ y.cell? ⟨p2, 1, none⟩ = some (.slice (some ⟨x2, o2, none⟩) n1 d1) ∧ y.cell? ⟨x1, o1 + k, none⟩ = some (.int .i64 sa) ∧ y.cell? ⟨x2, o2 + k, none⟩ = some (.int .i64 sb)) :=
                  Lib.hid fun y hy => ⟨(hLr.below hy hLr.lt).cell 1, (hKr.below hy hKr.lt).cell 1, (hy.cell (p := ⟨x1, o1 + k, none⟩) (Nat.lt_of_lt_of_le hx1 hzr)).trans ca, (hy.cell (p := ⟨x2, o2 + k, none⟩) (Nat.lt_of_lt_of_le hx2 hzr)).trans cb⟩
                clear ea eb ela elb ega egb hI2
                go_wp2_with fail
                go_region_held3 (fun w' => w'.cell? ⟨w.heap.size, 1, none⟩ = some (.slice (some ⟨x1, o1, none⟩) n1 c1) ∧ w'.cell? ⟨p2, 1, none⟩ = some (.slice (some ⟨x2, o2, none⟩) n1 d1) ∧ w'.cell? ⟨x1, o1 + k, none⟩ = some (.int .i64 sa) ∧ w'.cell? ⟨x2, o2 + k, none⟩ = some (.int .i64 sb))
                  (first
                    | exact K.out _ hd1
                    | exact K.out _ (Below.drew (below_a1 _ _))
                    | exact K.out _ (Below.drew (Below.refl _ _)))
                  (first
                    | (go_at_call 52; refine HT.out.mono ?_; rintro e w5 ⟨rfl, hb5⟩; have hd1 := below_then (Below.drew (below_a1 wr (.cells #[.int .i64 sa, .int .i64 sb] 3))) hb5))
                have hT5 := hT.below hd1
                have hL5 := hLr.below hd1 hLr.lt
                have hK5 := hKr.below hd1 hKr.lt
                have hR5 := hRr.below hd1 hRr.lt
                have hbe5 := hber.trans (hd1.mono hber.size)
                have a2 : w5.cell? ⟨w.heap.size, 2, none⟩ = some (.slice (some ⟨x3, o3, none⟩) n1 c2) := hL5.cell 2
                have a3 : w5.cell? ⟨w.heap.size, 3, none⟩ = some (.slice (some ⟨x5, o5, none⟩) n1 c3) := hL5.cell 3
                have k2 : w5.cell? ⟨p2, 2, none⟩ = some (.slice (some ⟨x4, o4, none⟩) n1 d2) := hK5.cell 2
                have k3 : w5.cell? ⟨p2, 3, none⟩ = some (.slice (some ⟨x6, o6, none⟩) n1 d3) := hK5.cell 3
                have cla := (hd1.cell (p := ⟨x3, o3 + k, none⟩) (Nat.lt_of_lt_of_le hx3 hzr)).trans cla
                have clb := (hd1.cell (p := ⟨x4, o4 + k, none⟩) (Nat.lt_of_lt_of_le hx4 hzr)).trans clb
                have cga := (hd1.cell (p := ⟨x5, o5 + k, none⟩) (Nat.lt_of_lt_of_le hx5 hzr)).trans cga
                have cgb := (hd1.cell (p := ⟨x6, o6 + k, none⟩) (Nat.lt_of_lt_of_le hx6 hzr)).trans cgb
                clear hT hLr hKr hRr har hbr hber hd1 hb5 K HT a1 k1 ca cb hL5 hK5
                have hst : sumI [sa, sb] = sa + sb := by simp [sumI]
                rcases hs.out with ⟨hin, hz, rfl⟩ | ⟨hin, rfl, _⟩
                · rw [hst] at hin hz
                  have hy : Hid (Ps.getD k 0 = z) := Lib.hid (hP.out.1.trans hz.symm)
                  have hJ2 : Hid (∀ j, j < k + 1 → inS (Ps.getD j 0)) := Lib.hid fun j hj => by
                    by_cases h : j < k
                    · exact hJ.out j h
                    · obtain rfl : j = k := by omega
                      rw [hP.out.1]; exact hin
                  clear hst hin hz hs hR5 hbe5 hJ
                  by_cases hm : lb < la
                  · have hlo : Pm.getD k 0 = lb := by rw [hP.out.2.1]; omega
                    by_cases hg : ga < gb
                    · have hhi : Px.getD k 0 = gb := by rw [hP.out.2.2]; omega
                      have g1 : w5.cell? ⟨s, 1, none⟩ = some (.slice E1 l1 d1') := hT5.blk.cell 1
                      go_wp2_with (at_builtin; refine wpList_appI rfl _ _ rfl w3.heap.size _ _ rfl (hT5.alloc _).r1 _ rfl z (cell_lit _ _ _ _ (by simp)) (by simp; omega) (hT5.alloc _).bel.size ?_)
                      intro u1 w11 hO1 hG1
                      obtain ⟨F1, j1, t1, rfl, _⟩ := hO1.formN
                      obtain ⟨hB1, hA1⟩ := (hT5.alloc _).app1 hO1 hG1
                      have x0 := hB1.cell 1
                      have x1' := hB1.free 1
                      have x2 : (w11.setCell ⟨s, 1, none⟩ (.slice F1 j1 t1)).cell? ⟨s, 2, none⟩ = some (.slice E2 l2 d2') := hA1.blk.cell 2
                      clear hT5 g1 hO1 hG1 hB1
                      go_wp2_with (at_builtin; refine wpList_appI rfl _ _ rfl w3.heap.size _ _ rfl (hA1.alloc _).r2 _ rfl lb (cell_lit _ _ _ _ (by simp)) (by simp; omega) (hA1.alloc _).bel.size ?_)
                      intro u2 w12 hO2 hG2
                      obtain ⟨F2, j2, t2, rfl, _⟩ := hO2.formN
                      obtain ⟨hB2, hA2⟩ := (hA1.alloc _).app2 hO2 hG2
                      have y0 := hB2.cell 2
                      have y1 := hB2.free 2
                      have y2 : (w12.setCell ⟨s, 2, none⟩ (.slice F2 j2 t2)).cell? ⟨s, 3, none⟩ = some (.slice E3 l3 d3') := hA2.blk.cell 3
                      clear hA1 x0 x1' x2 hO2 hG2 hB2
                      go_wp2_with (at_builtin; refine wpList_appI rfl _ _ rfl w3.heap.size _ _ rfl (hA2.alloc _).r3 _ rfl gb (cell_lit _ _ _ _ (by simp)) (by simp; omega) (hA2.alloc _).bel.size ?_)
                      intro u3 w13 hO3 hG3
                      obtain ⟨F3, j3, t3, rfl, _⟩ := hO3.formN
                      obtain ⟨hB3, hA3⟩ := (hA2.alloc _).app3 hO3 hG3
                      have z0 := hB3.cell 3
                      have z1 := hB3.free 3
                      rw [take_snoc (by rw [lP.out.1]; exact hlt) hy.out, take_snoc (by rw [lP.out.2.1]; exact hlt) hlo, take_snoc (by rw [lP.out.2.2]; exact hlt) hhi] at hA3
                      have hA4 := Lib.hid hA3
                      clear hA2 y0 y1 y2 hO3 hG3 hB3 hA3 hlo hhi
                      go_wp2_with fail
                      go_roundw
                      case rel => exact ⟨k + 1, _, _, _, by omega, by go_num, hJ2, hA4.out⟩
                      case measure => simp [intOf]; omega
                    · have hhi : Px.getD k 0 = ga := by rw [hP.out.2.2]; omega
                      have g1 : w5.cell? ⟨s, 1, none⟩ = some (.slice E1 l1 d1') := hT5.blk.cell 1
                      go_wp2_with (at_builtin; refine wpList_appI rfl _ _ rfl w3.heap.size _ _ rfl (hT5.alloc _).r1 _ rfl z (cell_lit _ _ _ _ (by simp)) (by simp; omega) (hT5.alloc _).bel.size ?_)
                      intro u1 w11 hO1 hG1
                      obtain ⟨F1, j1, t1, rfl, _⟩ := hO1.formN
                      obtain ⟨hB1, hA1⟩ := (hT5.alloc _).app1 hO1 hG1
                      have x0 := hB1.cell 1
                      have x1' := hB1.free 1
                      have x2 : (w11.setCell ⟨s, 1, none⟩ (.slice F1 j1 t1)).cell? ⟨s, 2, none⟩ = some (.slice E2 l2 d2') := hA1.blk.cell 2
                      clear hT5 g1 hO1 hG1 hB1
                      go_wp2_with (at_builtin; refine wpList_appI rfl _ _ rfl w3.heap.size _ _ rfl (hA1.alloc _).r2 _ rfl lb (cell_lit _ _ _ _ (by simp)) (by simp; omega) (hA1.alloc _).bel.size ?_)
                      intro u2 w12 hO2 hG2
                      obtain ⟨F2, j2, t2, rfl, _⟩ := hO2.formN
                      obtain ⟨hB2, hA2⟩ := (hA1.alloc _).app2 hO2 hG2
                      have y0 := hB2.cell 2
                      have y1 := hB2.free 2
                      have y2 : (w12.setCell ⟨s, 2, none⟩ (.slice F2 j2 t2)).cell? ⟨s, 3, none⟩ = some (.slice E3 l3 d3') := hA2.blk.cell 3
                      clear hA1 x0 x1' x2 hO2 hG2 hB2
                      go_wp2_with (at_builtin; refine wpList_appI rfl _ _ rfl w3.heap.size _ _ rfl (hA2.alloc _).r3 _ rfl ga (cell_lit _ _ _ _ (by simp)) (by simp; omega) (hA2.alloc _).bel.size ?_)
                      intro u3 w13 hO3 hG3
                      obtain ⟨F3, j3, t3, rfl, _⟩ := hO3.formN
                      obtain ⟨hB3, hA3⟩ := (hA2.alloc _).app3 hO3 hG3
                      have z0 := hB3.cell 3
                      have z1 := hB3.free 3
                      rw [take_snoc (by rw [lP.out.1]; exact hlt) hy.out, take_snoc (by rw [lP.out.2.1]; exact hlt) hlo, take_snoc (by rw [lP.out.2.2]; exact hlt) hhi] at hA3
                      have hA4 := Lib.hid hA3
                      clear hA2 y0 y1 y2 hO3 hG3 hB3 hA3 hlo hhi
                      go_wp2_with fail
                      go_roundw
                      case rel => exact ⟨k + 1, _, _, _, by omega, by go_num, hJ2, hA4.out⟩
                      case measure => simp [intOf]; omega
                  · have hlo : Pm.getD k 0 = la := by rw [hP.out.2.1]; omega
                    by_cases hg : ga < gb
                    · have hhi : Px.getD k 0 = gb := by rw [hP.out.2.2]; omega
                      have g1 : w5.cell? ⟨s, 1, none⟩ = some (.slice E1 l1 d1') := hT5.blk.cell 1
                      go_wp2_with (at_builtin; refine wpList_appI rfl _ _ rfl w3.heap.size _ _ rfl (hT5.alloc _).r1 _ rfl z (cell_lit _ _ _ _ (by simp)) (by simp; omega) (hT5.alloc _).bel.size ?_)
                      intro u1 w11 hO1 hG1
                      obtain ⟨F1, j1, t1, rfl, _⟩ := hO1.formN
                      obtain ⟨hB1, hA1⟩ := (hT5.alloc _).app1 hO1 hG1
                      have x0 := hB1.cell 1
                      have x1' := hB1.free 1
                      have x2 : (w11.setCell ⟨s, 1, none⟩ (.slice F1 j1 t1)).cell? ⟨s, 2, none⟩ = some (.slice E2 l2 d2') := hA1.blk.cell 2
                      clear hT5 g1 hO1 hG1 hB1
                      go_wp2_with (at_builtin; refine wpList_appI rfl _ _ rfl w3.heap.size _ _ rfl (hA1.alloc _).r2 _ rfl la (cell_lit _ _ _ _ (by simp)) (by simp; omega) (hA1.alloc _).bel.size ?_)
                      intro u2 w12 hO2 hG2
                      obtain ⟨F2, j2, t2, rfl, _⟩ := hO2.formN
                      obtain ⟨hB2, hA2⟩ := (hA1.alloc _).app2 hO2 hG2
                      have y0 := hB2.cell 2
                      have y1 := hB2.free 2
                      have y2 : (w12.setCell ⟨s, 2, none⟩ (.slice F2 j2 t2)).cell? ⟨s, 3, none⟩ = some (.slice E3 l3 d3') := hA2.blk.cell 3
                      clear hA1 x0 x1' x2 hO2 hG2 hB2
                      go_wp2_with (at_builtin; refine wpList_appI rfl _ _ rfl w3.heap.size _ _ rfl (hA2.alloc _).r3 _ rfl gb (cell_lit _ _ _ _ (by simp)) (by simp; omega) (hA2.alloc _).bel.size ?_)
                      intro u3 w13 hO3 hG3
                      obtain ⟨F3, j3, t3, rfl, _⟩ := hO3.formN
                      obtain ⟨hB3, hA3⟩ := (hA2.alloc _).app3 hO3 hG3
                      have z0 := hB3.cell 3
                      have z1 := hB3.free 3
                      rw [take_snoc (by rw [lP.out.1]; exact hlt) hy.out, take_snoc (by rw [lP.out.2.1]; exact hlt) hlo, take_snoc (by rw [lP.out.2.2]; exact hlt) hhi] at hA3
                      have hA4 := Lib.hid hA3
                      clear hA2 y0 y1 y2 hO3 hG3 hB3 hA3 hlo hhi
                      go_wp2_with fail
                      go_roundw
                      case rel => exact ⟨k + 1, _, _, _, by omega, by go_num, hJ2, hA4.out⟩
                      case measure => simp [intOf]; omega
                    · have hhi : Px.getD k 0 = ga := by rw [hP.out.2.2]; omega
                      have g1 : w5.cell? ⟨s, 1, none⟩ = some (.slice E1 l1 d1') := hT5.blk.cell 1
                      go_wp2_with (at_builtin; refine wpList_appI rfl _ _ rfl w3.heap.size _ _ rfl (hT5.alloc _).r1 _ rfl z (cell_lit _ _ _ _ (by simp)) (by simp; omega) (hT5.alloc _).bel.size ?_)
                      intro u1 w11 hO1 hG1
                      obtain ⟨F1, j1, t1, rfl, _⟩ := hO1.formN
                      obtain ⟨hB1, hA1⟩ := (hT5.alloc _).app1 hO1 hG1
                      have x0 := hB1.cell 1
                      have x1' := hB1.free 1
                      have x2 : (w11.setCell ⟨s, 1, none⟩ (.slice F1 j1 t1)).cell? ⟨s, 2, none⟩ = some (.slice E2 l2 d2') := hA1.blk.cell 2
                      clear hT5 g1 hO1 hG1 hB1
                      go_wp2_with (at_builtin; refine wpList_appI rfl _ _ rfl w3.heap.size _ _ rfl (hA1.alloc _).r2 _ rfl la (cell_lit _ _ _ _ (by simp)) (by simp; omega) (hA1.alloc _).bel.size ?_)
                      intro u2 w12 hO2 hG2
                      obtain ⟨F2, j2, t2, rfl, _⟩ := hO2.formN
                      obtain ⟨hB2, hA2⟩ := (hA1.alloc _).app2 hO2 hG2
                      have y0 := hB2.cell 2
                      have y1 := hB2.free 2
                      have y2 : (w12.setCell ⟨s, 2, none⟩ (.slice F2 j2 t2)).cell? ⟨s, 3, none⟩ = some (.slice E3 l3 d3') := hA2.blk.cell 3
                      clear hA1 x0 x1' x2 hO2 hG2 hB2
                      go_wp2_with (at_builtin; refine wpList_appI rfl _ _ rfl w3.heap.size _ _ rfl (hA2.alloc _).r3 _ rfl ga (cell_lit _ _ _ _ (by simp)) (by simp; omega) (hA2.alloc _).bel.size ?_)
                      intro u3 w13 hO3 hG3
                      obtain ⟨F3, j3, t3, rfl, _⟩ := hO3.formN
                      obtain ⟨hB3, hA3⟩ := (hA2.alloc _).app3 hO3 hG3
                      have z0 := hB3.cell 3
                      have z1 := hB3.free 3
                      rw [take_snoc (by rw [lP.out.1]; exact hlt) hy.out, take_snoc (by rw [lP.out.2.1]; exact hlt) hlo, take_snoc (by rw [lP.out.2.2]; exact hlt) hhi] at hA3
                      have hA4 := Lib.hid hA3
                      clear hA2 y0 y1 y2 hO3 hG3 hB3 hA3 hlo hhi
                      go_wp2_with fail
                      go_roundw
                      case rel => exact ⟨k + 1, _, _, _, by omega, by go_num, hJ2, hA4.out⟩
                      case measure => simp [intOf]; omega
                · have hZ : Hid (cMerge (q, S, M, X) (q', S', M', X') = (zeroC, 14)) := Lib.hid (by
                    rw [hZp.out, if_neg]
                    intro h
                    have := h.1 k hlt
                    rw [hP.out.1] at this
                    rw [hst] at hin
                    exact hin this)
                  have hR := hR5
                  clear hst hin hs
                  have r0 : w5.cell? ⟨p3, 0, none⟩ = some (.int .i64 0) := hR.cell 0
                  have r1 : w5.cell? ⟨p3, 1, none⟩ = some (.slice none 0 0) := hR.cell 1
                  have r2 : w5.cell? ⟨p3, 2, none⟩ = some (.slice none 0 0) := hR.cell 2
                  have r3 : w5.cell? ⟨p3, 3, none⟩ = some (.slice none 0 0) := hR.cell 3
                  have f0 := hR.free 0
                  have f1 := hR.free 1
                  have f2 := hR.free 2
                  have f3 := hR.free 3
                  have hRR := Lib.hid (hR.put4_ (.int .i64 0) (.slice none 0 0) (.slice none 0 0) (.slice none 0 0))
                  have hRB := Lib.hid (below_put4 hbe5 hp3 (.int .i64 0) (.slice none 0 0) (.slice none 0 0) (.slice none 0 0))
                  go_wp2_with fail
                  refine bodyPost_ret (results_block2 rfl _ _ p3 _ _ rfl hRR.out Try.underlying42 rfl info_cell) rfl ?_
                  rw [hZ.out]
                  exact merge_both ⟨⟨_, _, _, rfl, zeroC_own _ _⟩, hRB.out⟩
              · obtain rfl : k = n1 := by omega
                have hS1 : Ps.take k = Ps := List.take_of_length_le (by rw [lP.out.1]; exact Nat.le_refl _)
                have hS2 : Pm.take k = Pm := List.take_of_length_le (by rw [lP.out.2.1]; exact Nat.le_refl _)
                have hS3 : Px.take k = Px := List.take_of_length_le (by rw [lP.out.2.2]; exact Nat.le_refl _)
                rw [hS1, hS2, hS3] at hT
                have s0 : wr.cell? ⟨s, 0, none⟩ = some (.int .i64 (q + q')) := hT.blk.cell 0
                have s1 : wr.cell? ⟨s, 1, none⟩ = some (.slice E1 l1 d1') := hT.blk.cell 1
                have s2 : wr.cell? ⟨s, 2, none⟩ = some (.slice E2 l2 d2') := hT.blk.cell 2
                have s3 : wr.cell? ⟨s, 3, none⟩ = some (.slice E3 l3 d3') := hT.blk.cell 3
                have hp3l : p3 < w3.heap.size := hR.lt
                have hR := hRr
                have r0 : wr.cell? ⟨p3, 0, none⟩ = some (.int .i64 0) := hR.cell 0
                have r1 : wr.cell? ⟨p3, 1, none⟩ = some (.slice none 0 0) := hR.cell 1
                have r2 : wr.cell? ⟨p3, 2, none⟩ = some (.slice none 0 0) := hR.cell 2
                have r3 : wr.cell? ⟨p3, 3, none⟩ = some (.slice none 0 0) := hR.cell 3
                have f0 := hR.free 0
                have f1 := hR.free 1
                have f2 := hR.free 2
                have f3 := hR.free 3
                by_cases hc : 1099511627776 < q + q'
                · have hZ : Hid (cMerge (q, S, M, X) (q', S', M', X') = (zeroC, 14)) := Lib.hid (by
                    rw [hZp.out, if_neg]
                    intro h
                    have := h.2
                    omega)
                  have hRR := Lib.hid (hR.put4_ (.int .i64 0) (.slice none 0 0) (.slice none 0 0) (.slice none 0 0))
                  have hRB := Lib.hid (below_put4 hber hp3 (.int .i64 0) (.slice none 0 0) (.slice none 0 0) (.slice none 0 0))
                  go_wp2_with fail
                  refine bodyPost_ret (results_block2 rfl _ _ p3 _ _ rfl hRR.out Try.underlying42 rfl info_cell) rfl ?_
                  rw [hZ.out]
                  exact merge_both ⟨⟨_, _, _, rfl, zeroC_own _ _⟩, hRB.out⟩
                · have hZ : Hid (cMerge (q, S, M, X) (q', S', M', X') = ((q + q', Ps, Pm, Px), 0)) := Lib.hid (by
                    rw [hZp.out, if_pos ⟨hJ.out, by omega⟩])
                  have hO := hT.own.put4_ hp3l (.int .i64 (q + q')) (.slice E1 l1 d1') (.slice E2 l2 d2') (.slice E3 l3 d3')
                  have hRR := Lib.hid (hR.put4_ (.int .i64 (q + q')) (.slice E1 l1 d1') (.slice E2 l2 d2') (.slice E3 l3 d3'))
                  have hRB := Lib.hid (below_put4 hber hp3 (.int .i64 (q + q')) (.slice E1 l1 d1') (.slice E2 l2 d2') (.slice E3 l3 d3'))
                  have hRO := Lib.hid (hO.low (base' := w.heap.size) hbe.size)
                  clear hO hT
                  go_wp2_with fail
                  refine bodyPost_ret (results_block2 rfl _ _ p3 _ _ rfl hRR.out Try.underlying42 rfl info_cell) rfl ?_
                  rw [hZ.out]
                  exact merge_both ⟨⟨_, _, _, rfl, hRO.out⟩, hRB.out⟩
      · have hZ : Hid (cMerge (q, S, M, X) (q', S', M', X') = (zeroC, 1)) := Lib.hid (if_pos (.inr (.inr fun h => hl (by
          have h : S.length = S'.length := h
          have h1 := lA.out.1
          have h2 := lB.out.1
          omega))))
        have kk : ((n1 : Int) != (m1 : Int)) = true := by simp; omega
        clear hl
        have hRR := Lib.hid (hR.put4_ (.int .i64 0) (.slice none 0 0) (.slice none 0 0) (.slice none 0 0))
        have hRB := Lib.hid (below_put4 hbe hp3 (.int .i64 0) (.slice none 0 0) (.slice none 0 0) (.slice none 0 0))
        go_wp2_with fail
        refine bodyPost_ret (results_block2 rfl _ _ p3 _ _ rfl hRR.out Try.underlying42 rfl info_cell) rfl ?_
        rw [hZ.out]
        exact merge_both ⟨⟨_, _, _, rfl, zeroC_own _ _⟩, hRB.out⟩
section
variable {q q' : Int} {A1 A2 A3 B1 B2 B3 : Option Addr} {n1 c1 n2 c2 n3 c3 m1 d1 m2 d2 m3 d3 : Nat} {S M X S' M' X' : List Int} {w : World}
theorem refMerge_any (ha : HasC w w.heap.size A1 n1 c1 A2 n2 c2 A3 n3 c3 S M X) (hb : HasC w w.heap.size B1 m1 d1 B2 m2 d2 B3 m3 d3 S' M' X') :
    Calls Try.prog 32 #[cellV q A1 n1 c1 A2 n2 c2 A3 n3 c3, cellV q' B1 m1 d1 B2 m2 d2 B3 m3 d3] w (TellH w (cMerge (q, S, M, X) (q', S', M', X'))) := (refMerge_two ha hb).mono fun _ _ h => h.1
theorem refMerge_new (ha : HasC w w.heap.size A1 n1 c1 A2 n2 c2 A3 n3 c3 S M X) (hb : HasC w w.heap.size B1 m1 d1 B2 m2 d2 B3 m3 d3 S' M' X') (h : q ≠ 0 ∧ q' ≠ 0) :
    Calls Try.prog 32 #[cellV q A1 n1 c1 A2 n2 c2 A3 n3 c3, cellV q' B1 m1 d1 B2 m2 d2 B3 m3 d3] w (TellC w (cMerge (q, S, M, X) (q', S', M', X'))) := (refMerge_two ha hb).mono fun _ _ x => x.2 h
end
end Go.Proofs.Yteifhgcjmjihgaa
namespace Go.Proofs.Yteifhgcjmjihgaa
set_option maxRecDepth 100000
open Go.RowKit

theorem colI_len (L : List (List Int)) (k : Nat) : (colI L k).length = L.length := by simp [colI]
theorem colI_at {L : List (List Int)} {k j : Nat} (hj : j < L.length) : (colI L k).getD j 0 = (L.getD j []).getD k 0 := by
  simp [colI, List.getD_eq_getElem?_getD, hj]
theorem min_snoc {l : List Int} {x0 y : Int} {j : Nat} (hj : j < l.length) (hy : l.getD j 0 = y) : minL (x0 :: l.take (j + 1)) = min (minL (x0 :: l.take j)) y := by
  rw [← take_snoc hj hy, ← List.cons_append]
  exact minL_snoc (by simp) _
theorem max_snoc {l : List Int} {x0 y : Int} {j : Nat} (hj : j < l.length) (hy : l.getD j 0 = y) : maxL (x0 :: l.take (j + 1)) = max (maxL (x0 :: l.take j)) y := by
  rw [← take_snoc hj hy, ← List.cons_append]
  exact maxL_snoc (by simp) _
theorem min_head {l : List Int} (hl : 0 < l.length) : minL (l.getD 0 0 :: l) = minL l := by
  cases l with
  | nil => simp at hl
  | cons x l => show minL (x :: x :: l) = _; exact minL_same (by simp) (by simp) fun y => by simp
theorem max_head {l : List Int} (hl : 0 < l.length) : maxL (l.getD 0 0 :: l) = maxL l := by
  cases l with
  | nil => simp at hl
  | cons x l => show maxL (x :: x :: l) = _; exact maxL_same (by simp) (by simp) fun y => by simp

end Go.Proofs.Yteifhgcjmjihgaa
namespace Go.Proofs.Yteifhgcjmjihgaa
set_option maxRecDepth 100000
open Go.RowKit

/-! ### What stands in the variable behind the first k cells -/
def minsK (m : Nat) (L : List PC) (k : Nat) : List Int := (List.range m).map fun j => minL ((fullC (L.take k)).map fun c => c.2.2.1.getD j 0)
def maxsK (m : Nat) (L : List PC) (k : Nat) : List Int := (List.range m).map fun j => maxL ((fullC (L.take k)).map fun c => c.2.2.2.getD j 0)
theorem minsK_len (m : Nat) (L : List PC) (k : Nat) : (minsK m L k).length = m := by simp [minsK]
theorem maxsK_len (m : Nat) (L : List PC) (k : Nat) : (maxsK m L k).length = m := by simp [maxsK]
theorem minsK_zero (m : Nat) (L : List PC) : minsK m L 0 = List.replicate m 0 := by simp [minsK, fullC, minL, List.map_const']
theorem maxsK_zero (m : Nat) (L : List PC) : maxsK m L 0 = List.replicate m 0 := by simp [maxsK, fullC, maxL, List.map_const']
theorem minsK_none {m : Nat} {L : List PC} {k : Nat} (hk : k < L.length) (h : (L.getD k zeroC).1 = 0) : minsK m L (k + 1) = minsK m L k := by
  unfold minsK; rw [fullC_take hk, if_neg (by simpa using h), List.append_nil]
theorem maxsK_none {m : Nat} {L : List PC} {k : Nat} (hk : k < L.length) (h : (L.getD k zeroC).1 = 0) : maxsK m L (k + 1) = maxsK m L k := by
  unfold maxsK; rw [fullC_take hk, if_neg (by simpa using h), List.append_nil]
theorem minsK_at {m : Nat} {L : List PC} {k j : Nat} (hj : j < m) (hk : k < L.length) (h : (L.getD k zeroC).1 ≠ 0) : (minsK m L (k + 1)).getD j 0 = if fullC (L.take k) = [] then (L.getD k zeroC).2.2.1.getD j 0 else min ((minsK m L k).getD j 0) ((L.getD k zeroC).2.2.1.getD j 0) := by
  unfold minsK
  simp only [List.getD_eq_getElem?_getD, List.getElem?_map, List.getElem?_range hj, Option.map_some, Option.getD_some]
  rw [fullC_take hk, if_pos h]
  split
  · rename_i he
    rw [he]
    simp [minL, List.getD_eq_getElem?_getD]
  · rename_i he
    rw [List.map_append]
    have := minL_snoc (l := (fullC (L.take k)).map fun c => c.2.2.1.getD j 0) (by simpa using he) ((L.getD k zeroC).2.2.1.getD j 0)
    simpa [List.getD_eq_getElem?_getD] using this
theorem maxsK_at {m : Nat} {L : List PC} {k j : Nat} (hj : j < m) (hk : k < L.length) (h : (L.getD k zeroC).1 ≠ 0) : (maxsK m L (k + 1)).getD j 0 = if fullC (L.take k) = [] then (L.getD k zeroC).2.2.2.getD j 0 else max ((maxsK m L k).getD j 0) ((L.getD k zeroC).2.2.2.getD j 0) := by
  unfold maxsK
  simp only [List.getD_eq_getElem?_getD, List.getElem?_map, List.getElem?_range hj, Option.map_some, Option.getD_some]
  rw [fullC_take hk, if_pos h]
  split
  · rename_i he
    rw [he]
    simp [maxL, List.getD_eq_getElem?_getD]
  · rename_i he
    rw [List.map_append]
    have := maxL_snoc (l := (fullC (L.take k)).map fun c => c.2.2.2.getD j 0) (by simpa using he) ((L.getD k zeroC).2.2.2.getD j 0)
    simpa [List.getD_eq_getElem?_getD] using this
theorem headM_at0 (L : List PC) : headM L = (L.getD 0 zeroC).2.1.length := by cases L <;> rfl
theorem cSum_if {m : Nat} {L : List PC} (hn : L ≠ []) (hL : AllC m L) : cSum L = if sumI (L.map fun c => c.1) ≤ 1099511627776 ∧ ∀ k, k < m → inS (sumI (sumsAt L k)) then (sumC m L, 0) else (zeroC, 14) := by
  have hh := headM_is hn fun c hc => (hL.mem c hc).2
  unfold cSum
  rw [if_neg (by rintro (h | ⟨c, hc, h | h⟩); exact hn h; exact h (hL.mem c hc).1; exact h (by rw [hh]; exact (hL.mem c hc).2)), hh]
  rfl
/-- The first p of one row, the rest of another. -/
def mixL (a b : List Int) (p : Nat) : List Int := a.take p ++ b.drop p
theorem mixL_zero (a b : List Int) : mixL a b 0 = b := by simp [mixL]
theorem mixL_all {a b : List Int} (h : b.length = a.length) : mixL a b a.length = a := by
  unfold mixL
  rw [List.take_length, List.drop_of_length_le (by omega), List.append_nil]
theorem mixL_len {a b : List Int} {m p : Nat} (ha : a.length = m) (hb : b.length = m) (hp : p ≤ m) : (mixL a b p).length = m := by simp [mixL]; omega
theorem mixL_get {a b : List Int} {m p : Nat} (ha : a.length = m) (hb : b.length = m) (hp : p < m) : (mixL a b p).getD p 0 = b.getD p 0 := by
  unfold mixL
  rw [List.getD_eq_getElem?_getD, List.getD_eq_getElem?_getD, List.getElem?_append_right (by simp; omega), List.getElem?_drop, List.length_take, show p + (p - min p a.length) = p from by omega]
theorem mixL_set {a b : List Int} {m p : Nat} (ha : a.length = m) (hb : b.length = m) (hp : p < m) {y : Int} (hy : a.getD p 0 = y) : (mixL a b p).set p y = mixL a b (p + 1) := by
  apply List.ext_getElem?
  intro j
  unfold mixL
  rw [List.getElem?_set]
  by_cases hj : p = j
  · subst hj
    rw [if_pos rfl, if_pos (by simp; omega), List.getElem?_append_left (by simp; omega), List.getElem?_take, if_pos (by omega), ← hy, List.getD_eq_getElem?_getD, List.getElem?_eq_getElem (by omega)]
    rfl
  · rw [if_neg hj]
    by_cases hjp : j < p
    · rw [List.getElem?_append_left (by simp; omega), List.getElem?_append_left (by simp; omega), List.getElem?_take, List.getElem?_take, if_pos hjp, if_pos (by omega)]
    · rw [List.getElem?_append_right (by simp; omega), List.getElem?_append_right (by simp; omega), List.getElem?_drop, List.getElem?_drop, List.length_take, List.length_take]
      congr 1
      omega
theorem mixL_same {a b : List Int} {m p : Nat} (ha : a.length = m) (hb : b.length = m) (hp : p < m) (hy : a.getD p 0 = b.getD p 0) : mixL a b (p + 1) = mixL a b p := by
  rw [← mixL_set ha hb hp hy]
  apply List.ext_getElem?
  intro j
  rw [List.getElem?_set]
  by_cases hj : p = j
  · subst hj
    rw [if_pos rfl, if_pos (by rw [mixL_len ha hb (by omega)]; exact hp), ← mixL_get ha hb hp, List.getD_eq_getElem?_getD, List.getElem?_eq_getElem (by rw [mixL_len ha hb (by omega)]; exact hp)]
    rfl
  · rw [if_neg hj]
theorem full_count {L : List PC} (h : ∀ c ∈ L, 0 ≤ c.1) : sumI (L.map fun c => c.1) = 0 ↔ fullC L = [] := by
  have e : sumI (L.map fun c => c.1) = sumI ((fullC L).map fun c => c.1) := sumI_full (f := fun c => c.1) fun c _ h0 => h0
  have hp : ((fullC L).length : Int) ≤ sumI ((fullC L).map fun c => c.1) := by
    have := sumI_pos (l := (fullC L).map fun c => c.1) fun x hx => by
      obtain ⟨c, hc, rfl⟩ := List.mem_map.1 hx
      obtain ⟨h1, h2⟩ := List.mem_filter.1 hc
      have h3 := h c h1
      have h4 : c.1 ≠ 0 := by simpa using h2
      show 1 ≤ c.1
      omega
    rwa [List.length_map] at this
  constructor
  · intro h0
    apply List.eq_nil_of_length_eq_zero
    omega
  · intro h0
    rw [e, h0]; rfl
theorem counts_snoc {L : List PC} {k : Nat} (hk : k < L.length) : sumI ((L.take (k + 1)).map fun c => c.1) = sumI ((L.take k).map fun c => c.1) + (L.getD k zeroC).1 := by
  rw [List.take_add_one, List.map_append, sumI_app, List.getD_eq_getElem?_getD, List.getElem?_eq_getElem hk]
  simp [sumI]
theorem counts_mono {L : List PC} (h : ∀ c ∈ L, 0 ≤ c.1) (k : Nat) : sumI ((L.take k).map fun c => c.1) ≤ sumI (L.map fun c => c.1) := by
  have e : sumI (L.map fun c => c.1) = sumI ((L.take k).map fun c => c.1) + sumI ((L.drop k).map fun c => c.1) := by
    rw [← sumI_app, ← List.map_append, List.take_append_drop]
  have h2 : 0 ≤ sumI ((L.drop k).map fun c => c.1) := by
    have : ∀ {l : List PC}, (∀ c ∈ l, 0 ≤ c.1) → 0 ≤ sumI (l.map fun c => c.1) := by
      intro l
      induction l with
      | nil => intro _; simp [sumI]
      | cons c l ih =>
        intro h
        have h1 := h c (by simp)
        have h2 := ih fun d hd => h d (by simp [hd])
        simp only [List.map_cons, sumI]
        omega
    exact this fun c hc => h c (List.mem_of_mem_drop hc)
  omega
theorem sumsAt_len (L : List PC) (k : Nat) : (sumsAt L k).length = L.length := by simp [sumsAt]
theorem sumsAt_at {L : List PC} {k j : Nat} (hj : j < L.length) : (sumsAt L k).getD j 0 = (L.getD j zeroC).2.1.getD k 0 := by
  simp [sumsAt, List.getD_eq_getElem?_getD, hj]
/-- A row's cell is written. -/
theorem Acc.put2 {w0 w : World} {s g n c : Nat} {q : Int} {v1 v3 : Value} {S M X : List Int} (h : Acc w0 w s q v1 (.slice (some ⟨g, 0, none⟩) n c) v3 S M X) (j : Nat) (y : Int) :
    Acc w0 (w.setCell ⟨g, j, none⟩ (.int .i64 y)) s q v1 (.slice (some ⟨g, 0, none⟩) n c) v3 S (M.set j y) X := by
  have hT : 42 ≠ 3 := by decide
  have hs : g ≠ s := fun e => h.r2.ne_blk h.blk hT (by rw [e]; rfl)
  exact ⟨h.blk.elsewhere g j _ hs, h.r1.other (fun e => h.d12 g e rfl) _, h.r2.set_ j y, h.r3.other (fun e => h.d23 g rfl e) _, h.bel.setCell (p := ⟨g, j, none⟩) (h.r2.lt g rfl).1 _, h.hs, h.d12, h.d13, h.d23⟩
theorem Acc.put3 {w0 w : World} {s g n c : Nat} {q : Int} {v1 v2 : Value} {S M X : List Int} (h : Acc w0 w s q v1 v2 (.slice (some ⟨g, 0, none⟩) n c) S M X) (j : Nat) (y : Int) :
    Acc w0 (w.setCell ⟨g, j, none⟩ (.int .i64 y)) s q v1 v2 (.slice (some ⟨g, 0, none⟩) n c) S M (X.set j y) := by
  have hT : 42 ≠ 3 := by decide
  have hs : g ≠ s := fun e => h.r3.ne_blk h.blk hT (by rw [e]; rfl)
  exact ⟨h.blk.elsewhere g j _ hs, h.r1.other (fun e => h.d13 g e rfl) _, h.r2.other (fun e => h.d23 g e rfl) _, h.r3.set_ j y, h.bel.setCell (p := ⟨g, j, none⟩) (h.r3.lt g rfl).1 _, h.hs, h.d12, h.d13, h.d23⟩
theorem Acc.put1 {w0 w : World} {s g n c : Nat} {q : Int} {v2 v3 : Value} {S M X : List Int} (h : Acc w0 w s q (.slice (some ⟨g, 0, none⟩) n c) v2 v3 S M X) (j : Nat) (y : Int) :
    Acc w0 (w.setCell ⟨g, j, none⟩ (.int .i64 y)) s q (.slice (some ⟨g, 0, none⟩) n c) v2 v3 (S.set j y) M X := by
  have hT : 42 ≠ 3 := by decide
  have hs : g ≠ s := fun e => h.r1.ne_blk h.blk hT (by rw [e]; rfl)
  exact ⟨h.blk.elsewhere g j _ hs, h.r1.set_ j y, h.r2.other (fun e => h.d12 g rfl e) _, h.r3.other (fun e => h.d13 g rfl e) _, h.bel.setCell (p := ⟨g, j, none⟩) (h.r1.lt g rfl).1 _, h.hs, h.d12, h.d13, h.d23⟩
theorem Acc.putq {w0 w : World} {s : Nat} {q : Int} {v1 v2 v3 : Value} {S M X : List Int} (h : Acc w0 w s q v1 v2 v3 S M X) (q' : Int) : Acc w0 (w.setCell ⟨s, 0, none⟩ (.int .i64 q')) s q' v1 v2 v3 S M X := by
  have hT : 42 ≠ 3 := by decide
  exact ⟨h.blk.set_ 0 _, h.r1.other (h.r1.ne_blk h.blk hT) _, h.r2.other (h.r2.ne_blk h.blk hT) _, h.r3.other (h.r3.ne_blk h.blk hT) _, h.bel.setCell (p := ⟨s, 0, none⟩) h.hs _, h.hs, h.d12, h.d13, h.d23⟩
theorem OwnI.formG {w : World} {base : Nat} {v : Value} {l : List Int} (h : OwnI w base v l) (hl : 0 < l.length) : ∃ g cap, v = .slice (some ⟨g, 0, none⟩) l.length cap := by
  rcases h.2 with ⟨rfl, h0⟩ | ⟨g, cap, cur, rfl, _⟩
  · omega
  · exact ⟨g, cap, rfl⟩
end Go.Proofs.Yteifhgcjmjihgaa
namespace Go.Proofs.Yteifhgcjmjihgaa
set_option maxRecDepth 100000
open Go.RowKit

theorem getD_mem {L : List PC} {c : PC} (h : c ∈ L) : ∃ i, i < L.length ∧ L.getD i zeroC = c := by
  obtain ⟨k, hk, rfl⟩ := List.mem_iff_getElem.1 h
  exact ⟨k, hk, by rw [List.getD_eq_getElem?_getD, List.getElem?_eq_getElem hk]; rfl⟩
theorem headM_getD (L : List PC) : headM L = (L.getD 0 zeroC).2.1.length := by cases L <;> rfl

set_option maxRecDepth 100000 in
set_option maxHeartbeats 2000000 in
theorem cellSum_any {A : Option Addr} {n c : Nat} {L : List PC} {w : World} (h : HasCs w w.heap.size A n c L) (hn : n ≤ 1000000) :
    Calls Try.prog 17 #[.slice A n c] w (TellC w (cSum L)) := by
  have hll := Lib.hid h.len
  have hlm := h.lenMax
  have hcm := h.capMax
  have hcap := h.cap
  have hb0 := below_a1 w (.cells #[.int .i64 0, .slice none 0 0, .slice none 0 0, .slice none 0 0] 42)
  have hR := Block.new w 42 #[.int .i64 0, .slice none 0 0, .slice none 0 0, .slice none 0 0]
  have h1 := h.belowS hb0
  by_cases h0 : n = 0
  · subst h0
    have hZ : Hid (cSum L = (zeroC, 1)) := Lib.hid (cSum_arg (.inl (List.eq_nil_of_length_eq_zero hll.out)))
    go_enter Try.func17, Try.ntmps17
    go_wp2_with fail
    refine bodyPost_ret (results_block2 rfl _ _ w.heap.size _ _ rfl hR Try.underlying42 rfl info_cell) rfl ?_
    rw [hZ.out]
    exact ⟨⟨_, _, _, rfl, zeroC_own _ _⟩, hb0⟩
  · have i2 : (0 : Int) < (n : Int) := by omega
    have i3 : ((n : Int) == 0) = false := by simp; omega
    obtain ⟨r, hr⟩ : ∃ r : Bool, Hid (r = true ↔ ∀ i, i < n → cMay (L.getD i zeroC) ∧ (L.getD i zeroC).2.1.length = (L.getD 0 zeroC).2.1.length) := ⟨decide (∀ i, i < n → cMay (L.getD i zeroC) ∧ (L.getD i zeroC).2.1.length = (L.getD 0 zeroC).2.1.length), Lib.hid (by simp)⟩
    have hA := Lib.hid (alike_any h1 hr.out)
    go_enter Try.func17, Try.ntmps17
    go_wp2_with fail
    refine hA.out.mono ?_
    rintro e w1 ⟨rfl, hb1⟩
    have hR1 := hR.below hb1 hR.lt
    have hbe := below_then hb0 hb1
    have h2 := h1.belowS hb1
    clear hA hb1 hb0 h1 hR h
    have r0 : w1.cell? ⟨w.heap.size, 0, none⟩ = some (.int .i64 0) := hR1.cell 0
    have r1 : w1.cell? ⟨w.heap.size, 1, none⟩ = some (.slice none 0 0) := hR1.cell 1
    have r2 : w1.cell? ⟨w.heap.size, 2, none⟩ = some (.slice none 0 0) := hR1.cell 2
    have r3 : w1.cell? ⟨w.heap.size, 3, none⟩ = some (.slice none 0 0) := hR1.cell 3
    have f0 := hR1.free 0
    have f1 := hR1.free 1
    have f2 := hR1.free 2
    have f3 := hR1.free 3
    cases r
    · have hZ : Hid (cSum L = (zeroC, 1)) := Lib.hid (cSum_arg (.inr (by
        apply Decidable.byContradiction
        intro hno
        have : false = true := hr.out.2 fun i hi => by
          have hm : L.getD i zeroC ∈ L := by
            rw [List.getD_eq_getElem?_getD, List.getElem?_eq_getElem (by rw [hll.out]; exact hi)]
            exact List.getElem_mem _
          have h3 : ¬ (¬ cMay (L.getD i zeroC) ∨ (L.getD i zeroC).2.1.length ≠ headM L) := fun h => hno ⟨_, hm, h⟩
          rw [headM_getD] at h3
          exact ⟨Decidable.byContradiction fun h => h3 (.inl h), Decidable.byContradiction fun h => h3 (.inr h)⟩
        cases this)))
      have hRR := Lib.hid (hR1.put4_ (.int .i64 0) (.slice none 0 0) (.slice none 0 0) (.slice none 0 0))
      have hRB := Lib.hid (below_put4 hbe (Nat.le_refl _) (.int .i64 0) (.slice none 0 0) (.slice none 0 0) (.slice none 0 0))
      clear hr
      go_wp2_with fail
      refine bodyPost_ret (results_block2 rfl _ _ w.heap.size _ _ rfl hRR.out Try.underlying42 rfl info_cell) rfl ?_
      rw [hZ.out]
      exact ⟨⟨_, _, _, rfl, zeroC_own _ _⟩, hRB.out⟩
    · obtain ⟨m, hm⟩ : ∃ m, Hid ((L.getD 0 zeroC).2.1.length = m) := ⟨_, Lib.hid rfl⟩
      have HAll : Hid (AllC m L) := Lib.hid fun k hk => by
        have := hr.out.1 rfl k (by rw [← hll.out]; exact hk)
        exact ⟨this.1, this.2.trans hm.out⟩
      have hm2 : m ≤ 2 := by
        have := (HAll.out 0 (by rw [hll.out]; omega))
        have h3 := this.1.1
        rw [this.2] at h3
        exact h3
      have HX := Lib.hid (index_any h2)
      have hne : Hid (L ≠ []) := Lib.hid fun e => by have := hll.out; rw [e] at this; simp at this; omega
      clear hr
      go_wp2_with fail
      refine HX.out.mono ?_
      rintro e w2 ⟨⟨x, rfl, hx⟩, hb2⟩
      have hR2 := hR1.below hb2 hR1.lt
      have hbe2 := below_then hbe hb2
      have h3 := h2.belowS hb2
      clear r0 r1 r2 r3 f0 f1 f2 f3 hR1 hbe h2 hb2 HX
      rcases hx with ⟨k, hk, rfl, hf, hk0⟩ | ⟨rfl, hall⟩
      · have h4 := h3.cut (Nat.le_of_lt hk) (by omega)
        have HT := Lib.hid (together_any (m := m) h4 (by omega) (by omega) hm2 (fun j hj => by
          rw [List.length_drop, hll.out] at hj
          have := HAll.out (k + j) (by rw [hll.out]; omega)
          have e : (L.drop k).getD j zeroC = L.getD (k + j) zeroC := by simp [List.getD_eq_getElem?_getD]
          rw [e]; exact this) (by
          have e : (L.drop k).getD 0 zeroC = L.getD k zeroC := by simp [List.getD_eq_getElem?_getD]
          rw [e]; exact hf))
        have hZ : Hid (cSum L = togC m (L.drop k)) := Lib.hid (cSum_drop hm2 hne.out HAll.out.mem fun c hc => by
          obtain ⟨j, hj, rfl⟩ := getD_mem hc
          rw [List.length_take] at hj
          have e : (L.take k).getD j zeroC = L.getD j zeroC := by simp [List.getD_eq_getElem?_getD, show j < k from by omega]
          rw [e]
          have h5 := hk0 j (by omega)
          have h6 := (cMay_count (HAll.out j (by rw [hll.out]; omega)).1).1
          omega)
        have j0 : (0 : Int) ≤ (k : Int) := by omega
        have j1 : (k : Int) ≤ (n : Int) := by omega
        have j2 : (n : Int) ≤ (c : Int) := by omega
        have j3 : (k : Int) ≤ (c : Int) := by omega
        have j4 : ¬ (k : Int) < 0 := by omega
        have j5 : ¬ c = k := by omega
        clear hf hk0 h3 h4
        go_wp2_with fail
        refine HT.out.mono ?_
        rintro e w3 ⟨⟨v1, v2, v3, rfl, ho⟩, hb3⟩
        have hR3 := hR2.below hb3 hR2.lt
        have hbe3 := below_then hbe2 hb3
        have hrs : w.heap.size < w2.heap.size := hR2.lt
        have r0 : w3.cell? ⟨w.heap.size, 0, none⟩ = some (.int .i64 0) := hR3.cell 0
        have r1 : w3.cell? ⟨w.heap.size, 1, none⟩ = some (.slice none 0 0) := hR3.cell 1
        have r2 : w3.cell? ⟨w.heap.size, 2, none⟩ = some (.slice none 0 0) := hR3.cell 2
        have r3 : w3.cell? ⟨w.heap.size, 3, none⟩ = some (.slice none 0 0) := hR3.cell 3
        have f0 := hR3.free 0
        have f1 := hR3.free 1
        have f2 := hR3.free 2
        have f3 := hR3.free 3
        obtain ⟨A1, n1, c1, rfl, _⟩ := ho.s.formN
        obtain ⟨A2, n2, c2, rfl, _⟩ := ho.m.formN
        obtain ⟨A3, n3, c3, rfl, _⟩ := ho.x.formN
        obtain ⟨q, S, M, X, y, hq⟩ : ∃ q S M X y, Hid (togC m (L.drop k) = ((q, S, M, X), y)) := ⟨_, _, _, _, _, Lib.hid rfl⟩
        rw [hq.out] at ho hZ ⊢
        have hRR := Lib.hid (hR3.put4_ (.int .i64 q) (.slice A1 n1 c1) (.slice A2 n2 c2) (.slice A3 n3 c3))
        have hRB := Lib.hid (below_put4 hbe3 (Nat.le_refl _) (.int .i64 q) (.slice A1 n1 c1) (.slice A2 n2 c2) (.slice A3 n3 c3))
        have hRO := Lib.hid ((ho.put4_ hrs (.int .i64 q) (.slice A1 n1 c1) (.slice A2 n2 c2) (.slice A3 n3 c3)).low (Nat.le_of_lt hrs))
        clear ho HT hb3 hq
        go_wp2_with fail
        refine bodyPost_ret (results_block2 rfl _ _ w.heap.size _ _ rfl hRR.out Try.underlying42 rfl info_cell) rfl ?_
        rw [hZ.out]
        exact ⟨⟨_, _, _, rfl, hRO.out⟩, hRB.out⟩
      · have hZ : Hid (cSum L = (cEmpty m, 0)) := Lib.hid (cSum_none hm2 hne.out HAll.out.mem fun c hc => by
          obtain ⟨j, hj, rfl⟩ := getD_mem hc
          have h5 := hall j (by rw [← hll.out]; exact hj)
          have h6 := (cMay_count (HAll.out j hj).1).1
          omega)
        obtain ⟨b, o, q, A1, n1, c1, A2, n2, c2, A3, n3, c3, S, M, X, rfl, hb, g0, g1, g2, g3, hC, hq⟩ := h3.at_ (k := 0) (by omega)
        rw [show o + 0 * 4 + 1 = o + 1 from by omega] at g1
        obtain rfl : n1 = m := by
          have := hm.out
          rw [hq.out] at this
          rw [← hC.s.len]; exact this
        clear g0 g2 g3 hC hq h3 hall
        have HE := Lib.hid fun W => empty_any (n1 : Int) W (m := n1) (by omega)
        go_wp2_with fail
        refine (HE.out _).mono ?_
        rintro e w3 ⟨⟨e1, e2, e3, rfl, ho, _⟩, hb3⟩
        have hR3 := hR2.below hb3 hR2.lt
        have hbe3 := below_then hbe2 hb3
        have hrs : w.heap.size < w2.heap.size := hR2.lt
        have r0 : w3.cell? ⟨w.heap.size, 0, none⟩ = some (.int .i64 0) := hR3.cell 0
        have r1 : w3.cell? ⟨w.heap.size, 1, none⟩ = some (.slice none 0 0) := hR3.cell 1
        have r2 : w3.cell? ⟨w.heap.size, 2, none⟩ = some (.slice none 0 0) := hR3.cell 2
        have r3 : w3.cell? ⟨w.heap.size, 3, none⟩ = some (.slice none 0 0) := hR3.cell 3
        have f0 := hR3.free 0
        have f1 := hR3.free 1
        have f2 := hR3.free 2
        have f3 := hR3.free 3
        have hRR := Lib.hid (hR3.put4_ (.int .i64 0) (.slice (some ⟨e1, 0, none⟩) n1 n1) (.slice (some ⟨e2, 0, none⟩) n1 n1) (.slice (some ⟨e3, 0, none⟩) n1 n1))
        have hRB := Lib.hid (below_put4 hbe3 (Nat.le_refl _) (.int .i64 0) (.slice (some ⟨e1, 0, none⟩) n1 n1) (.slice (some ⟨e2, 0, none⟩) n1 n1) (.slice (some ⟨e3, 0, none⟩) n1 n1))
        have hRO := Lib.hid ((ho.put4_ hrs (.int .i64 0) (.slice (some ⟨e1, 0, none⟩) n1 n1) (.slice (some ⟨e2, 0, none⟩) n1 n1) (.slice (some ⟨e3, 0, none⟩) n1 n1)).low (Nat.le_of_lt hrs))
        clear ho HE hb3
        go_wp2_with fail
        refine bodyPost_ret (results_block2 rfl _ _ w.heap.size _ _ rfl hRR.out Try.underlying42 rfl info_cell) rfl ?_
        rw [hZ.out]
        exact ⟨⟨_, _, _, rfl, hRO.out⟩, hRB.out⟩

/-- A fresh literal of two cells. -/
theorem HasCs.lit2 {w : World} {q q' : Int} {A1 A2 A3 B1 B2 B3 : Option Addr} {n1 c1 n2 c2 n3 c3 m1 d1 m2 d2 m3 d3 : Nat} {S M X S' M' X' : List Int}
    (ha : HasC w w.heap.size A1 n1 c1 A2 n2 c2 A3 n3 c3 S M X) (hb : HasC w w.heap.size B1 m1 d1 B2 m2 d2 B3 m3 d3 S' M' X') (T : TypeId) (g : Nat) (hg : g = w.heap.size) :
    HasCs (w.alloc (.cells #[.int .i64 q, .slice A1 n1 c1, .slice A2 n2 c2, .slice A3 n3 c3, .int .i64 q', .slice B1 m1 d1, .slice B2 m2 d2, .slice B3 m3 d3] T)) (w.alloc (.cells #[.int .i64 q, .slice A1 n1 c1, .slice A2 n2 c2, .slice A3 n3 c3, .int .i64 q', .slice B1 m1 d1, .slice B2 m2 d2, .slice B3 m3 d3] T)).heap.size
      (some ⟨g, 0, none⟩) 2 2 [(q, S, M, X), (q', S', M', X')] := by
  subst hg
  refine ⟨rfl, Nat.le_refl _, by decide, (fun h => by cases h), fun i hi => ?_⟩
  match i, hi with
  | 0, _ => exact ⟨w.heap.size, 0, _, _, _, _, _, _, _, _, _, rfl, by simp, ⟨by rw [cell_new]; rfl, by rw [cell_new]; rfl, by rw [cell_new]; rfl, by rw [cell_new]; rfl⟩, ha.allocS _⟩
  | 1, _ => exact ⟨w.heap.size, 0, _, _, _, _, _, _, _, _, _, rfl, by simp, ⟨by rw [cell_new]; rfl, by rw [cell_new]; rfl, by rw [cell_new]; rfl, by rw [cell_new]; rfl⟩, hb.allocS _⟩
  | (j + 2), h => exact absurd h (by omega)
set_option maxRecDepth 100000 in
set_option maxHeartbeats 2000000 in
theorem merge_any {q q' : Int} {A1 A2 A3 B1 B2 B3 : Option Addr} {n1 c1 n2 c2 n3 c3 m1 d1 m2 d2 m3 d3 : Nat} {S M X S' M' X' : List Int} {w : World}
    (ha : HasC w w.heap.size A1 n1 c1 A2 n2 c2 A3 n3 c3 S M X) (hb : HasC w w.heap.size B1 m1 d1 B2 m2 d2 B3 m3 d3 S' M' X') :
    Calls Try.prog 28 #[cellV q A1 n1 c1 A2 n2 c2 A3 n3 c3, cellV q' B1 m1 d1 B2 m2 d2 B3 m3 d3] w (TellC w (cMerge (q, S, M, X) (q', S', M', X'))) := by
  have hb3 := below_a3 w (.cells #[.int .i64 q, .slice A1 n1 c1, .slice A2 n2 c2, .slice A3 n3 c3] 42) (.cells #[.int .i64 q', .slice B1 m1 d1, .slice B2 m2 d2, .slice B3 m3 d3] 42) (.cells #[.int .i64 0, .slice none 0 0, .slice none 0 0, .slice none 0 0] 42)
  have hR3 := Block.new ((w.alloc (.cells #[.int .i64 q, .slice A1 n1 c1, .slice A2 n2 c2, .slice A3 n3 c3] 42)).alloc (.cells #[.int .i64 q', .slice B1 m1 d1, .slice B2 m2 d2, .slice B3 m3 d3] 42)) 42 #[.int .i64 0, .slice none 0 0, .slice none 0 0, .slice none 0 0]
  simp only [World.size_alloc] at hR3
  have ha3 := ha.belowS hb3
  have hb3' := hb.belowS hb3
  go_enter Try.func28, Try.ntmps28
  go_wp2_with fail
  have h4 := HasCs.lit2 (q := q) (q' := q') ha3 hb3' 42 (w.heap.size + 1 + 1 + 1) (by simp)
  have hR4 := hR3.alloc (.cells #[.int .i64 q, .slice A1 n1 c1, .slice A2 n2 c2, .slice A3 n3 c3, .int .i64 q', .slice B1 m1 d1, .slice B2 m2 d2, .slice B3 m3 d3] 42)
  have hb4 := below_then hb3 (below_a1 (((w.alloc (.cells #[.int .i64 q, .slice A1 n1 c1, .slice A2 n2 c2, .slice A3 n3 c3] 42)).alloc (.cells #[.int .i64 q', .slice B1 m1 d1, .slice B2 m2 d2, .slice B3 m3 d3] 42)).alloc (.cells #[.int .i64 0, .slice none 0 0, .slice none 0 0, .slice none 0 0] 42)) (.cells #[.int .i64 q, .slice A1 n1 c1, .slice A2 n2 c2, .slice A3 n3 c3, .int .i64 q', .slice B1 m1 d1, .slice B2 m2 d2, .slice B3 m3 d3] 42))
  clear ha hb ha3 hb3 hb3' hR3
  generalize (((w.alloc (.cells #[.int .i64 q, .slice A1 n1 c1, .slice A2 n2 c2, .slice A3 n3 c3] 42)).alloc (.cells #[.int .i64 q', .slice B1 m1 d1, .slice B2 m2 d2, .slice B3 m3 d3] 42)).alloc (.cells #[.int .i64 0, .slice none 0 0, .slice none 0 0, .slice none 0 0] 42)).alloc (.cells #[.int .i64 q, .slice A1 n1 c1, .slice A2 n2 c2, .slice A3 n3 c3, .int .i64 q', .slice B1 m1 d1, .slice B2 m2 d2, .slice B3 m3 d3] 42) = w4 at h4 hR4 hb4 ⊢
  have hr : w.heap.size ≤ w.heap.size + 1 + 1 := by omega
  generalize w.heap.size + 1 + 1 = g at h4 hR4 hr ⊢
  refine (cellSum_any h4 (by decide)).mono ?_
  rintro e w5 ⟨⟨v1, v2, v3, rfl, ho⟩, hb5⟩
  have hrs : g < w4.heap.size := hR4.lt
  have hR5 := hR4.below hb5 hrs
  have hbe := below_then hb4 hb5
  clear hb5
  have r0 : w5.cell? ⟨g, 0, none⟩ = some (.int .i64 0) := hR5.cell 0
  have r1 : w5.cell? ⟨g, 1, none⟩ = some (.slice none 0 0) := hR5.cell 1
  have r2 : w5.cell? ⟨g, 2, none⟩ = some (.slice none 0 0) := hR5.cell 2
  have r3 : w5.cell? ⟨g, 3, none⟩ = some (.slice none 0 0) := hR5.cell 3
  have f0 := hR5.free 0
  have f1 := hR5.free 1
  have f2 := hR5.free 2
  have f3 := hR5.free 3
  obtain ⟨E1, l1, k1, rfl, _⟩ := ho.s.formN
  obtain ⟨E2, l2, k2, rfl, _⟩ := ho.m.formN
  obtain ⟨E3, l3, k3, rfl, _⟩ := ho.x.formN
  obtain ⟨p, P, Q, R, y, hq⟩ : ∃ p P Q R y, Hid (cSum [(q, S, M, X), (q', S', M', X')] = ((p, P, Q, R), y)) := ⟨_, _, _, _, _, Lib.hid rfl⟩
  have hZ := Lib.hid (cSum_two (q, S, M, X) (q', S', M', X'))
  rw [hq.out] at ho hZ
  have hRR := Lib.hid (hR5.put4_ (.int .i64 p) (.slice E1 l1 k1) (.slice E2 l2 k2) (.slice E3 l3 k3))
  have hRB := Lib.hid (below_put4 hbe hr (.int .i64 p) (.slice E1 l1 k1) (.slice E2 l2 k2) (.slice E3 l3 k3))
  have hRO := Lib.hid ((ho.put4_ hrs (.int .i64 p) (.slice E1 l1 k1) (.slice E2 l2 k2) (.slice E3 l3 k3)).low hb4.size)
  rw [hq.out]
  clear ho hq h4 hbe
  go_wp2_with fail
  refine bodyPost_ret (results_block2 rfl _ _ g _ _ rfl hRR.out Try.underlying42 rfl info_cell) rfl ?_
  rw [← hZ.out]
  exact ⟨⟨_, _, _, rfl, hRO.out⟩, hRB.out⟩
end Go.Proofs.Yteifhgcjmjihgaa
