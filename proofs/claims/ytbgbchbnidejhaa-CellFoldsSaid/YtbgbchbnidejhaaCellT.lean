/- Layer 5: the exact sum of one number of each cell. -/
import Derived.Test.YtbgbchbnidejhaaCellA
import Derived.Test.YtbgbchbnidejhaaWideTot
import Derived.Test.YtbgbchbnidejhaaWide2
namespace Go.Proofs.Ytbgbchbnidejhaa
open Go.RowKit

/-- The first k are told, the others are noughts still. -/
def nums (l : List Int) (k : Nat) : List Int := l.take k ++ List.replicate (l.length - k) 0
theorem nums_zero (l : List Int) : nums l 0 = List.replicate l.length 0 := by simp [nums]
theorem nums_all (l : List Int) : nums l l.length = l := by simp [nums]
theorem nums_set {l : List Int} {k : Nat} (h : k < l.length) : (nums l k).set k (l.getD k 0) = nums l (k + 1) := by
  apply List.ext_getElem?
  intro j
  unfold nums
  rw [List.getElem?_set]
  by_cases hj : k = j
  · subst hj
    rw [if_pos rfl, if_pos (by simp; omega), List.getElem?_append_left (by simp; omega), List.getElem?_take, if_pos (by omega), List.getD_eq_getElem?_getD, List.getElem?_eq_getElem h]
    rfl
  · rw [if_neg hj]
    by_cases hjk : j < k
    · rw [List.getElem?_append_left (by simp; omega), List.getElem?_append_left (by simp; omega), List.getElem?_take, List.getElem?_take, if_pos hjk, if_pos (by omega)]
    · rw [List.getElem?_append_right (by simp; omega), List.getElem?_append_right (by simp; omega), List.getElem?_replicate, List.getElem?_replicate, List.length_take, List.length_take]
      by_cases hl : j < l.length
      · rw [if_pos (by omega), if_pos (by omega)]
      · rw [if_neg (by omega), if_neg (by omega)]
theorem nums_length (l : List Int) (k : Nat) (h : k ≤ l.length) : (nums l k).length = l.length := by simp [nums]; omega
/-- Is it an int? -/
def is64 (z : Int) : Prop := -9223372036854775808 ≤ z ∧ z ≤ 9223372036854775807
instance (z : Int) : Decidable (is64 z) := by unfold is64; exact inferInstance
theorem wNum_is (z : Int) : wNum (z / 4294967296) (z % 4294967296) = z := by unfold wNum; omega

set_option maxRecDepth 100000 in
set_option maxHeartbeats 2000000 in
theorem ctotal_any {A : Option Addr} {n c : Nat} {L : List PC} {w : World} (h : HasCs w w.heap.size A n c L) (hn : n ≤ 1000000) (fid : Nat) (lb : Array Value) (f : PC → Int)
    (eg : ∀ args W, (callFunc fid args).run Try.prog W = .ok (.enter fid args) W)
    (HF : ∀ k, k < n → ∀ q A1 n1 c1 A2 n2 c2 A3 n3 c3 S M X W, Below w.heap.size w W → HasC W W.heap.size A1 n1 c1 A2 n2 c2 A3 n3 c3 S M X → L.getD k zeroC = (q, S, M, X) →
      Calls Try.prog fid (#[cellV q A1 n1 c1 A2 n2 c2 A3 n3 c3] ++ lb) W fun e w' => e = .returned (.int .i64 (f (q, S, M, X))) ∧ Below W.heap.size W w')
    (hI : I64 (L.map f)) {z x : Int} (hs : (is64 (sumI (L.map f)) ∧ z = sumI (L.map f) ∧ x = 0) ∨ (¬ is64 (sumI (L.map f)) ∧ z = 0 ∧ x = 14)) :
    Calls Try.prog 40 #[.slice A n c, .func (.func fid) #[] lb] w fun e w' => e = .returned (.tuple #[.int .i64 z, .int .i64 x]) ∧ Below w.heap.size w w' := by
  have hlm := h.lenMax
  have hll := Lib.hid h.len
  have HI := Lib.hid hI
  have HS := Lib.hid hs
  have HFF := Lib.hid HF
  clear hI hs HF
  have HK : ∀ W : World, (Instr.makeSlice 24 (.int .i64 (n : Int)) (.int .i64 (n : Int))).run Try.prog W = .ok (.slice (some ⟨W.heap.size, 0, none⟩) n n) (W.alloc (.cells (zrow n) 3)) := fun W => make_ints n W (by omega)
  go_enter Try.func40, Try.ntmps40
  go_wp2_with fail
  clear HK
  have hO : OwnI (w.alloc (.cells (zrow n) 3)) w.heap.size (.slice (some ⟨w.heap.size, 0, none⟩) n n) (nums (L.map f) 0) := by
    rw [nums_zero, List.length_map, hll.out]
    exact own_zrow (Block.new w _ _) (Nat.le_refl _) hn
  have hb0 := below_a1 w (.cells (zrow n) 3)
  go_loopw [16] (fun i wr => ∃ k : Nat, k ≤ n ∧ i = .int .i64 k ∧ OwnI wr w.heap.size (.slice (some ⟨w.heap.size, 0, none⟩) n n) (nums (L.map f) k) ∧ Below w.heap.size w wr) (fun i _ => n - (intOf i).toNat)
  case atStart => exact ⟨0, Nat.zero_le _, rfl, hO, hb0⟩
  case round =>
    obtain ⟨k, hk, rfl, hR, hbe⟩ := hrel
    clear hO hb0
    by_cases hlt : k < n
    · obtain ⟨b, o, q, A1, n1, c1, A2, n2, c2, A3, n3, c3, S, M, X, rfl, hb, g0, g1, g2, g3, hC, hq⟩ := (h.below hbe (Nat.le_refl _)).at_ hlt
      have i0 : (0 : Int) ≤ (k : Int) := by omega
      have i1 : (k : Int) < (n : Int) := by omega
      have hbx := below_a1 wr (.cells #[.int .i64 q, .slice A1 n1 c1, .slice A2 n2 c2, .slice A3 n3 c3] 26)
      have hR1 := hR.alloc (.cells #[.int .i64 q, .slice A1 n1 c1, .slice A2 n2 c2, .slice A3 n3 c3] 26)
      have hB := Block.new wr 26 #[.int .i64 q, .slice A1 n1 c1, .slice A2 n2 c2, .slice A3 n3 c3]
      have hbW := hbe.trans (hbx.mono hbe.size)
      have hCW := (hC.below hbx hbe.size).more hbW.size
      have HC := Lib.hid (HFF.out k hlt q A1 n1 c1 A2 n2 c2 A3 n3 c3 S M X _ hbW hCW hq.out)
      have hfx : Hid ((L.map f).getD k 0 = f (q, S, M, X)) := Lib.hid (by
        rw [List.getD_eq_getElem?_getD, List.getElem?_map, ← hq.out, List.getD_eq_getElem?_getD, List.getElem?_eq_getElem (by rw [hll.out]; exact hlt)]
        rfl)
      generalize f (q, S, M, X) = y at HC hfx
      have hnx : Hid ((nums (L.map f) k).set k y = nums (L.map f) (k + 1)) := Lib.hid (by rw [← hfx.out]; exact nums_set (by rw [List.length_map, hll.out]; exact hlt))
      have hkl : k < (nums (L.map f) k).length := by rw [nums_length _ _ (by rw [List.length_map, hll.out]; omega), List.length_map, hll.out]; exact hlt
      clear hC hCW hR hbx
      go_wp2_with fail
      generalize wr.alloc (.cells #[.int .i64 q, .slice A1 n1 c1, .slice A2 n2 c2, .slice A3 n3 c3] 26) = W at hR1 hB hbW HC ⊢
      have k0 : W.cell? ⟨wr.heap.size, 0, none⟩ = some (.int .i64 q) := hB.cell 0
      have k1 : W.cell? ⟨wr.heap.size, 1, none⟩ = some (.slice A1 n1 c1) := hB.cell 1
      have k2 : W.cell? ⟨wr.heap.size, 2, none⟩ = some (.slice A2 n2 c2) := hB.cell 2
      have k3 : W.cell? ⟨wr.heap.size, 3, none⟩ = some (.slice A3 n3 c3) := hB.cell 3
      clear g0 g1 g2 g3 hB
      go_wp2_with fail
      refine HC.out.mono ?_
      rintro e w2 ⟨rfl, hb2⟩
      have hR2 := hR1.below hb2 (Nat.le_refl _)
      have hbe2 := hbW.trans (hb2.mono hbW.size)
      have s0 := hR2.cell_ k hkl
      have s1 := hR2.free k
      have hN : Hid (OwnI (w2.setCell ⟨w.heap.size, k, none⟩ (.int .i64 y)) w.heap.size (.slice (some ⟨w.heap.size, 0, none⟩) n n) (nums (L.map f) (k + 1))) := Lib.hid (by rw [← hnx.out]; exact hR2.set_ k y)
      have hNB := Lib.hid (hbe2.setCell (p := ⟨w.heap.size, k, none⟩) (Nat.le_refl _) (.int .i64 y))
      clear hR1 hR2 hb2 hbW hbe hbe2 HC k0 k1 k2 k3
      go_wp2_with fail
      go_roundw
      case rel => exact ⟨k + 1, by omega, by go_num, hN.out, hNB.out⟩
      case measure => simp [intOf]; omega
    · obtain rfl : k = n := by omega
      have hA : OwnI wr w.heap.size (.slice (some ⟨w.heap.size, 0, none⟩) k k) (L.map f) := by
        have h1 := nums_all (L.map f)
        rw [List.length_map, hll.out] at h1
        rwa [h1] at hR
      have hH := hA.has
      obtain ⟨s, hsd⟩ : ∃ s, sumI (L.map f) = s := ⟨_, rfl⟩
      have HS2 := HS.out
      rw [hsd] at HS2
      have HS3 := Lib.hid HS2
      have hsd := Lib.hid hsd
      clear HS2 HS hR hA
      by_cases hw : wIn s
      · have HT := Lib.hid (total_any _ k k _ wr hH hn HI.out (s / 4294967296) (s % 4294967296) 0 (.inl ⟨by rw [hsd.out]; exact hw, by rw [hsd.out], by rw [hsd.out], rfl⟩))
        have hwm : wMay (s / 4294967296) (s % 4294967296) := (wIn_may s).2 hw
        clear hH
        go_wp2_with fail
        refine HT.out.mono ?_
        rintro e w2 ⟨rfl, hb2⟩
        have hbe2 := hbe.trans (hb2.mono hbe.size)
        have hbx := below_a1 w2 (.cells #[.int .i64 (s / 4294967296), .int .i64 (s % 4294967296)] 65)
        have hbe3 := hbe2.trans (hbx.mono hbe2.size)
        clear hb2 hbe HT
        have hI := Lib.hid fun W => int_sum (s / 4294967296) (s % 4294967296) W hwm z x (by
          rw [wNum_is]
          rcases HS3.out with ⟨⟨a, b⟩, c, d⟩ | ⟨a, c, d⟩
          · exact .inl ⟨a, b, c, d⟩
          · exact .inr ⟨a, c, d⟩)
        clear hwm hw
        go_wp2_with fail
        refine (hI.out _).mono ?_
        rintro e w3 ⟨rfl, hb3⟩
        have hbe4 := hbe3.trans (hb3.mono hbe3.size)
        clear hb3 hI
        go_wp2_with fail
        go_ret2
        exact ⟨rfl, hbe4⟩
      · have HT := Lib.hid (total_any _ k k _ wr hH hn HI.out 0 0 14 (.inr ⟨by rw [hsd.out]; exact hw, rfl, rfl, rfl⟩))
        have hzx : z = 0 ∧ x = 14 := by
          rcases HS3.out with ⟨h1, _⟩ | ⟨_, h1, h2⟩
          · unfold is64 at h1
            unfold wIn at hw
            omega
          · exact ⟨h1, h2⟩
        obtain ⟨rfl, rfl⟩ := hzx
        clear hH hw HS3
        go_wp2_with fail
        refine HT.out.mono ?_
        rintro e w2 ⟨rfl, hb2⟩
        have hbe2 := hbe.trans (hb2.mono hbe.size)
        have hbx := below_a1 w2 (.cells #[.int .i64 0, .int .i64 0] 65)
        have hbe3 := hbe2.trans (hbx.mono hbe2.size)
        clear hb2 hbe HT
        go_wp2_with fail
        go_ret2
        exact ⟨rfl, hbe3⟩

/-- The Mins, the Maxs of a measure of those that are not empty, behind the first one's. -/
def loL (L : List PC) (i : Nat) : List Int := (L.getD 0 zeroC).2.2.1.getD i 0 :: (fullC L).map fun c => c.2.2.1.getD i 0
def hiL (L : List PC) (i : Nat) : List Int := (L.getD 0 zeroC).2.2.2.getD i 0 :: (fullC L).map fun c => c.2.2.2.getD i 0
/-- .. among the first k. -/
def loK (L : List PC) (i k : Nat) : List Int := (L.getD 0 zeroC).2.2.1.getD i 0 :: (fullC (L.take k)).map fun c => c.2.2.1.getD i 0
def hiK (L : List PC) (i k : Nat) : List Int := (L.getD 0 zeroC).2.2.2.getD i 0 :: (fullC (L.take k)).map fun c => c.2.2.2.getD i 0
theorem fullC_take {L : List PC} {k : Nat} (hk : k < L.length) : fullC (L.take (k + 1)) = fullC (L.take k) ++ if (L.getD k zeroC).1 ≠ 0 then [L.getD k zeroC] else [] := by
  unfold fullC
  rw [List.take_add_one, List.filter_append, List.getElem?_eq_getElem hk, List.getD_eq_getElem?_getD, List.getElem?_eq_getElem hk]
  simp only [Option.toList_some, Option.getD_some, List.filter_cons, List.filter_nil]
  congr 1
  by_cases h : L[k].1 = 0 <;> simp [h]
theorem loK_full {L : List PC} {i k : Nat} (hk : k < L.length) (h : (L.getD k zeroC).1 ≠ 0) : minL (loK L i (k + 1)) = leS (minL (loK L i k)) ((L.getD k zeroC).2.2.1.getD i 0) := by
  unfold loK leS
  rw [fullC_take hk, if_pos h, List.map_append, ← List.cons_append]
  exact minL_snoc (by simp) _
theorem hiK_full {L : List PC} {i k : Nat} (hk : k < L.length) (h : (L.getD k zeroC).1 ≠ 0) : maxL (hiK L i (k + 1)) = grS (maxL (hiK L i k)) ((L.getD k zeroC).2.2.2.getD i 0) := by
  unfold hiK grS
  rw [fullC_take hk, if_pos h, List.map_append, ← List.cons_append]
  exact maxL_snoc (by simp) _
theorem loK_none {L : List PC} {i k : Nat} (hk : k < L.length) (h : (L.getD k zeroC).1 = 0) : loK L i (k + 1) = loK L i k := by
  unfold loK
  rw [fullC_take hk, if_neg (by simpa using h), List.append_nil]
theorem hiK_none {L : List PC} {i k : Nat} (hk : k < L.length) (h : (L.getD k zeroC).1 = 0) : hiK L i (k + 1) = hiK L i k := by
  unfold hiK
  rw [fullC_take hk, if_neg (by simpa using h), List.append_nil]

set_option maxRecDepth 100000 in
set_option maxHeartbeats 2000000 in
theorem ends_any {A : Option Addr} {n c : Nat} {L : List PC} {w : World} (h : HasCs w w.heap.size A n c L) (i m : Nat) (him : i < m) (hm2 : m ≤ 2) (h0 : 0 < n)
    (HL : ∀ k, k < n → 0 ≤ (L.getD k zeroC).1 ∧ (L.getD k zeroC).2.2.1.length = m ∧ (L.getD k zeroC).2.2.2.length = m) {a b : Int} (ha : a = minL (loL L i)) (hb : b = maxL (hiL L i)) :
    Calls Try.prog 43 #[.slice A n c, .int .i64 (i : Int)] w fun e w' => e = .returned (.tuple #[.int .i64 a, .int .i64 b]) ∧ Below w.heap.size w w' := by
  have hlm := h.lenMax
  have hll := Lib.hid h.len
  have HLL := Lib.hid HL
  have HA := Lib.hid ha
  have HB := Lib.hid hb
  clear HL ha hb
  obtain ⟨p, o, q, A1, n1, c1, A2, n2, c2, A3, n3, c3, S, M, X, rfl, hp, g0, g1, g2, g3, hC, hq⟩ := h.at_ h0
  rw [show o + 0 * 4 + 2 = o + 2 from by omega] at g2
  rw [show o + 0 * 4 + 3 = o + 3 from by omega] at g3
  have hl0 := HLL.out 0 h0
  rw [hq.out] at hl0
  obtain ⟨_, hl2, hl3⟩ := hl0
  have e2 : n2 = m := by rw [← hC.m.len]; exact hl2
  have e3 : n3 = m := by rw [← hC.x.len]; exact hl3
  subst e2
  obtain rfl := e3
  obtain ⟨b2, o2, lo, rfl, _, cm, em⟩ := hC.m.at_ him
  obtain ⟨b3, o3, hi, rfl, _, cx, ex⟩ := hC.x.at_ him
  have HE : Hid (lo = minL (loK L i 0) ∧ hi = maxL (hiK L i 0)) := Lib.hid (by
    unfold loK hiK
    rw [hq.out]
    exact ⟨em.out, ex.out⟩)
  have i0 : (0 : Int) ≤ (i : Int) := by omega
  have i1 : (i : Int) < (n3 : Int) := by omega
  have i2 : (0 : Int) < (n : Int) := by omega
  clear g0 g1 hC hl2 hl3
  go_enter Try.func43, Try.ntmps43
  go_wp2_with fail
  go_quiet (fail)
  have hb0 : Below w.heap.size w (w.drewN nq) := below_drewN (Below.refl _ _) _
  generalize w.drewN nq = w0 at hb0 ⊢
  clear g2 g3 cm cx i2
  go_wp2_with fail
  go_loopw [6, 7, 26] (fun a b j wr => ∃ (k : Nat) (x y : Int), k ≤ n ∧ a = .int .i64 x ∧ b = .int .i64 y ∧ j = .int .i64 k ∧ Hid (x = minL (loK L i k) ∧ y = maxL (hiK L i k)) ∧ Below w.heap.size w wr) (fun _ _ j _ => n - (intOf j).toNat)
  case atStart => exact ⟨0, lo, hi, Nat.zero_le _, rfl, rfl, rfl, HE, hb0⟩
  case round =>
    obtain ⟨k, x, y, hk, rfl, rfl, rfl, hxy, hbe⟩ := hrel
    clear hb0 HE
    by_cases hlt : k < n
    · obtain ⟨p', o', q', A1, n1, c1, A2, n2, c2, A3, n3', c3, S, M, X, he, hp', g0, g1, g2, g3, hC, hq⟩ := (h.below hbe (Nat.le_refl _)).at_ hlt
      injection he with he
      injection he with he1 he2
      subst he1 he2
      have hl0 := HLL.out k hlt
      rw [hq.out] at hl0
      obtain ⟨hq0, hl2, hl3⟩ := hl0
      have e2 : n2 = n3 := by rw [← hC.m.len]; exact hl2
      have e3 : n3' = n3 := by rw [← hC.x.len]; exact hl3
      subst e2
      obtain rfl := e3
      have hq0 : 0 ≤ q' := hq0
      have j0 : (0 : Int) ≤ (k : Int) := by omega
      have j1 : (k : Int) < (n : Int) := by omega
      have hbx := below_a1 wr (.cells #[.int .i64 q', .slice A1 n1 c1, .slice A2 n3' c2, .slice A3 n3' c3] 26)
      have hB := Block.new wr 26 #[.int .i64 q', .slice A1 n1 c1, .slice A2 n3' c2, .slice A3 n3' c3]
      have hbW := hbe.trans (hbx.mono hbe.size)
      have hCW := hC.below hbx hbe.size
      clear hC hbx hl2 hl3
      go_wp2_with fail
      generalize wr.alloc (.cells #[.int .i64 q', .slice A1 n1 c1, .slice A2 n3' c2, .slice A3 n3' c3] 26) = W at hB hbW hCW ⊢
      clear g0 g1 g2 g3
      have k0 : W.cell? ⟨wr.heap.size, 0, none⟩ = some (.int .i64 q') := hB.cell 0
      have k1 : W.cell? ⟨wr.heap.size, 1, none⟩ = some (.slice A1 n1 c1) := hB.cell 1
      have k2 : W.cell? ⟨wr.heap.size, 2, none⟩ = some (.slice A2 n3' c2) := hB.cell 2
      have k3 : W.cell? ⟨wr.heap.size, 3, none⟩ = some (.slice A3 n3' c3) := hB.cell 3
      by_cases hf : 0 < q'
      · have hX : Hid (leS x (M.getD i 0) = minL (loK L i (k + 1)) ∧ grS y (X.getD i 0) = maxL (hiK L i (k + 1))) := Lib.hid (by
          have hne : (L.getD k zeroC).1 ≠ 0 := by rw [hq.out]; show q' ≠ 0; omega
          rw [loK_full (by rw [hll.out]; exact hlt) hne, hiK_full (by rw [hll.out]; exact hlt) hne, ← hxy.out.1, ← hxy.out.2, hq.out]
          exact ⟨rfl, rfl⟩)
        go_wp2_with fail
        refine (filled_any q' A1 n1 c1 A2 n3' c2 A3 n3' c3 _ (r := true) (by simpa using hf)).mono ?_
        rintro e w2 ⟨rfl, hb2⟩
        have hbe2 := hbW.trans (hb2.mono hbW.size)
        have hB2 := hB.below hb2 hB.lt
        have hC2 := hCW.below hb2 hbW.size
        obtain ⟨b2, o2, lo', rfl, _, cm, em⟩ := hC2.m.at_ him
        obtain ⟨b3, o3, hi', rfl, _, cx, ex⟩ := hC2.x.at_ him
        rw [← em.out, ← ex.out] at hX
        have l2 : w2.cell? ⟨wr.heap.size, 2, none⟩ = some (.slice (some ⟨b2, o2, none⟩) n3' c2) := hB2.cell 2
        have l3 : w2.cell? ⟨wr.heap.size, 3, none⟩ = some (.slice (some ⟨b3, o3, none⟩) n3' c3) := hB2.cell 3
        clear k0 k1 k2 k3 hB hCW hB2 hC2 hb2 em ex hbW
        go_wp2_with fail
        go_quiet (first | (go_at_call 28; exact quietS (lesser_any x lo' _)) | (go_at_call 29; exact quietS (greater_any y hi' _)))
        have hbe3 : Below w.heap.size w (w2.drewN nq) := below_drewN hbe2 _
        generalize w2.drewN nq = w3 at hbe3 ⊢
        clear l2 l3 cm cx hbe2
        go_wp2_with fail
        go_roundw
        case rel => exact ⟨k + 1, _, _, by omega, rfl, rfl, by go_num, hX, hbe3⟩
        case measure => simp [intOf]; omega
      · have hX : Hid (x = minL (loK L i (k + 1)) ∧ y = maxL (hiK L i (k + 1))) := Lib.hid (by
          have hne : (L.getD k zeroC).1 = 0 := by rw [hq.out]; show q' = 0; omega
          rw [loK_none (by rw [hll.out]; exact hlt) hne, hiK_none (by rw [hll.out]; exact hlt) hne]
          exact hxy.out)
        go_wp2_with fail
        refine (filled_any q' A1 n1 c1 A2 n3' c2 A3 n3' c3 _ (r := false) (by simpa using hf)).mono ?_
        rintro e w2 ⟨rfl, hb2⟩
        have hbe2 := hbW.trans (hb2.mono hbW.size)
        clear k0 k1 k2 k3 hB hCW hb2 hbW
        go_wp2_with fail
        go_roundw
        case rel => exact ⟨k + 1, _, _, by omega, rfl, rfl, by go_num, hX, hbe2⟩
        case measure => simp [intOf]; omega
    · obtain rfl : k = n := by omega
      have e1 : x = a := by rw [HA.out, hxy.out.1]; unfold loK loL; rw [List.take_of_length_le (by rw [hll.out]; exact Nat.le_refl _)]
      have e2 : y = b := by rw [HB.out, hxy.out.2]; unfold hiK hiL; rw [List.take_of_length_le (by rw [hll.out]; exact Nat.le_refl _)]
      subst e1 e2
      go_wp2_with fail
      go_ret2
      exact ⟨rfl, hbe⟩
end Go.Proofs.Ytbgbchbnidejhaa
