/- Layer 7: New, Up, Path. -/
import Derived.Test.YtccdjjpkcahgfaaDictL
import Derived.Test.YtccdjjpkcahgfaaTextsA
import Derived.Test.YtccdjjpkcahgfaaNamesU
namespace Go.Proofs.Ytccdjjpkcahgfaa
open Go.RowKit

theorem makeMap_any (w : World) : (Instr.makeMap 66 none).run Try.prog w = .ok (.map (some w.heap.size)) (w.alloc (.map #[] 0)) := run_makeMap _ w
theorem block_sec (w : World) (o : Obj) (e : TypeId) (cs : Array Value) (g : Nat) (hg : g = w.heap.size + 1) : Block ((w.alloc o).alloc (.cells cs e)) g e cs := by
  subst hg
  have := Block.new (w.alloc o) e cs
  simpa using this
theorem new_dict (w : World) {n : Nat} (hn : 1 ≤ n ∧ n ≤ 3) {g : Nat} (hg : g = w.heap.size + 1) : Dc ((w.alloc (.map #[] 0)).alloc (.cells #[.int .i64 (n : Int), .slice none 0 0, .map (some w.heap.size)] 69)) w.heap.size g (.slice none 0 0) w.heap.size n [] :=
  ⟨block_sec _ _ _ _ _ hg, OwnE.nil_ _ _, (HasM.made w).alloc _, by omega, Nat.le_refl _, good_nil hn⟩
/-- New. -/
theorem new_any (w : World) {n : Nat} (hn : 1 ≤ n ∧ n ≤ 3) :
    Calls Try.prog 12 #[.int .i64 (n : Int)] w fun e w' => e = .returned (.pointer (some ⟨w.heap.size + 1, 0, none⟩)) ∧ Dc w' w.heap.size (w.heap.size + 1) (.slice none 0 0) w.heap.size n [] ∧ Below w.heap.size w w' := by
  have hmm := makeMap_any
  have h1 : ¬ (n : Int) < 1 := by omega
  have h2 : ¬ (3 : Int) < (n : Int) := by omega
  have H := fun g (hg : g = w.heap.size + 1) => Lib.hid (new_dict w hn hg)
  clear hn
  go_enter Try.func12, Try.ntmps12
  go_wp2
  go_ret
  exact ⟨by first | rfl | simp, (H _ rfl).out, below_a2 _ _ _⟩
theorem new_no (w : World) {n : Int} (hn : ¬ (1 ≤ n ∧ n ≤ 3)) :
    Calls Try.prog 12 #[.int .i64 n] w fun e w' => e = .returned (.pointer none) ∧ w = w' := by
  by_cases h1 : n < 1
  · go_enter Try.func12, Try.ntmps12
    go_wp2
    go_ret
    exact ⟨rfl, rfl⟩
  · have h2 : 3 < n := by omega
    clear hn
    go_enter Try.func12, Try.ntmps12
    go_wp2
    go_ret
    exact ⟨rfl, rfl⟩

/-- What Up answers. -/
def upA (Q : List Pth) (c k : Int) : Nat × Nat :=
  if 0 ≤ c ∧ c ≤ (Q.length : Int) then if 0 ≤ k ∧ k ≤ ((pth Q c.toNat).length : Int) then (fnd Q ((pth Q c.toNat).take k.toNat), 0) else (0, 1) else (0, 33)
theorem up_two {a b a' b' : Nat} (h : (a, b) = (a', b')) : Ending.returned (.tuple #[.int .i64 (a : Int), .int .i64 (b : Int)]) = .returned (.tuple #[.int .i64 (a' : Int), .int .i64 (b' : Int)]) := by
  injection h with h1 h2
  rw [h1, h2]
set_option maxRecDepth 100000 in
set_option maxHeartbeats 1000000 in
/-- Up. -/
theorem dup_any {w : World} {base g : Nat} {pv : Value} {bm n : Nat} {Q : List Pth} (h : Dc w base g pv bm n Q) (c k : Int) {x e : Nat} (hx : Hid (upA Q c k = (x, e))) :
    Calls Try.prog 34 #[.pointer (some ⟨g, 0, none⟩), .int .i64 c, .int .i64 k] w fun y w' => y = .returned (.tuple #[.int .i64 (x : Int), .int .i64 (e : Int)]) ∧ Below w.heap.size w w' := by
  by_cases hc : 0 ≤ c ∧ c ≤ (Q.length : Int)
  · obtain ⟨m, rfl⟩ : ∃ m : Nat, c = (m : Int) := ⟨c.toNat, by omega⟩
    obtain ⟨q, hq⟩ : ∃ q, Hid (pth Q m = q) := ⟨_, Lib.hid rfl⟩
    have hm : m ≤ Q.length := by omega
    have hh := Lib.hid (decide_eq_true hc)
    have hA : upA Q (m : Int) k = if 0 ≤ k ∧ k ≤ (q.length : Int) then (fnd Q (q.take k.toNat), 0) else (0, 1) := by
      unfold upA; rw [if_pos hc]; simp only [Int.toNat_natCast, hq.out]
    rw [hA] at hx
    have hl := line_any h m hm hq
    clear hc hA
    by_cases hk : 0 ≤ k
    · by_cases hk2 : k ≤ (q.length : Int)
      · obtain ⟨i, rfl⟩ : ∃ i : Nat, k = (i : Int) := ⟨k.toNat, by omega⟩
        have hi : i ≤ q.length := by omega
        have Hx : Hid ((fnd Q (q.take i), 0) = (x, e)) := Lib.hid (by have := hx.out; rw [if_pos ⟨hk, hk2⟩] at this; simpa using this)
        clear hx hk
        go_enter Try.func34, Try.ntmps34
        go_wp2_with fail
        refine (has_any h _ hh).mono ?_
        rintro y w' ⟨rfl, rfl⟩
        go_wp2_with fail
        refine hl.mono ?_
        rintro y w' ⟨v, rfl, hO, hB⟩
        obtain ⟨A, n', c', rfl, hI, _⟩ := hO.formN
        have hn' : n' = q.length + 1 := by rw [← hI.len, cds_len]
        have hin : i < n' := by omega
        obtain ⟨b, o, y, rfl, hb, hcell, hy⟩ := hI.at_ hin
        rw [cds_get (by omega)] at hy
        have Hn := Lib.hid hn'
        have hge : ¬ (n' : Int) ≤ (i : Int) := by omega
        have hcap := hI.cap
        have hcm := hI.capMax
        clear hO hn' hl hI hk2 hi
        go_wp2_with fail
        go_ret2
        exact ⟨by rw [hy.out]; exact up_two Hx.out, hB⟩
      · have Hx : Hid ((0, 1) = (x, e)) := Lib.hid (by have := hx.out; rwa [if_neg (fun h => hk2 h.2)] at this)
        clear hx
        go_enter Try.func34, Try.ntmps34
        go_wp2_with fail
        refine (has_any h _ hh).mono ?_
        rintro y w' ⟨rfl, rfl⟩
        go_wp2_with fail
        refine hl.mono ?_
        rintro y w' ⟨v, rfl, hO, hB⟩
        obtain ⟨A, n', c', rfl, hI, _⟩ := hO.formN
        have hn' : n' = q.length + 1 := by rw [← hI.len, cds_len]
        have hge : (n' : Int) ≤ k := by omega
        have hcap := hI.cap
        have hcm := hI.capMax
        clear hO hn' hl hI hk2
        go_wp2_with fail
        go_ret2
        exact ⟨up_two Hx.out, hB⟩
    · have Hx : Hid ((0, 1) = (x, e)) := Lib.hid (by have := hx.out; rwa [if_neg (fun h => hk h.1)] at this)
      clear hx
      go_enter Try.func34, Try.ntmps34
      go_wp2_with fail
      refine (has_any h _ hh).mono ?_
      rintro y w' ⟨rfl, rfl⟩
      go_wp2_with fail
      refine hl.mono ?_
      rintro y w' ⟨v, rfl, hO, hB⟩
      obtain ⟨A, n', c', rfl, hI, _⟩ := hO.formN
      clear hO hl hI
      go_wp2_with fail
      go_ret2
      exact ⟨up_two Hx.out, hB⟩
  · have Hx : Hid ((0, 33) = (x, e)) := Lib.hid (by have := hx.out; unfold upA at this; rwa [if_neg hc] at this)
    have hh := Lib.hid (decide_eq_false hc)
    clear hx hc
    go_enter Try.func34, Try.ntmps34
    go_wp2_with fail
    refine (has_any h _ hh).mono ?_
    rintro y w' ⟨rfl, rfl⟩
    go_wp2_with fail
    go_ret2
    exact ⟨up_two Hx.out, Below.refl _ _⟩

theorem getD_drop {l : List Int} {k : Nat} : (l.drop 1).getD k 0 = l.getD (k + 1) 0 := by simp [List.getD_eq_getElem?_getD]
/-- The name at a place of a path, out of the row. -/
theorem Good.ent_at {n : Nat} {Q : List Pth} (h : Good n Q) {q : Pth} (hq : q ∈ Q) {k : Nat} (hk : k < q.length) : ∃ i a, fnd Q (q.take (k + 1)) = i + 1 ∧ i < Q.length ∧ (ents Q)[i]? = some (a, q.getD k []) := by
  have hm := h.take_mem hq (k := k + 1) (by omega) hk
  have hp := fnd_pos.2 hm
  have hle := fnd_le (L := Q) (x := q.take (k + 1))
  have e1 : fnd Q (q.take (k + 1)) = (fnd Q (q.take (k + 1)) - 1) + 1 := by omega
  have e2 := ents_get (fnd_get hm)
  rw [last_take hk] at e2
  exact ⟨_, _, e1, by omega, e2⟩

set_option maxRecDepth 100000 in
set_option maxHeartbeats 1000000 in
/-- Path, of a code that is there. -/
theorem path_any {w : World} {base g : Nat} {pv : Value} {bm n : Nat} {Q : List Pth} (h : Dc w base g pv bm n Q) (m : Nat) (hm : m ≤ Q.length) {q : Pth} (hq : Hid (pth Q m = q)) :
    Calls Try.prog 25 #[.pointer (some ⟨g, 0, none⟩), .int .i64 (m : Int)] w fun y w' => ∃ v, y = .returned (.tuple #[v, .int .i64 0]) ∧ OwnT w' w.heap.size v q ∧ Below w.heap.size w w' := by
  have hh : Hid (decide (0 ≤ (m : Int) ∧ (m : Int) ≤ (Q.length : Int)) = true) := Lib.hid (decide_eq_true (by omega))
  have hl := line_any h m hm hq
  have hqm : Hid (q = [] ∨ q ∈ Q) := Lib.hid (by
    rw [← hq.out]
    rcases Nat.eq_zero_or_pos m with h0 | h0
    · left; rw [h0]; rfl
    · right; exact pth_mem h0 hm)
  have hql : Hid (q.length ≤ 3) := Lib.hid (by have := h.good.pth_len (c := m); have := h.good.lv.2; rw [hq.out] at *; omega)
  have hgood := Lib.hid h.good
  have hlt := h.block.lt
  obtain ⟨A, cap, rfl, hE⟩ := h.form
  have hE' := Lib.hid hE
  have hcap := hE.cap
  have hQl := h.good.size
  have K : Hid (∀ y, Below w.heap.size w y → y.cell? ⟨g, 1, none⟩ = some (.slice A Q.length cap)) := Lib.hid fun y hy => (hy.cell (p := ⟨g, 1, none⟩) hlt).trans h.c1
  clear hE hm hq
  go_enter Try.func25, Try.ntmps25
  go_wp2_with fail
  refine (has_any h _ hh).mono ?_
  rintro y w' ⟨rfl, rfl⟩
  go_wp2_with fail
  refine hl.mono ?_
  rintro y w1 ⟨v, rfl, hO, hB⟩
  obtain ⟨g2, c', rfl, hg1, hg2, hcap', hcm', hcell⟩ := hO.formP (by rw [cds_len]; omega)
  rw [cds_len] at hcap' hcell
  have e0 := cds_len Q q (q.length + 1)
  rw [e0]
  clear e0
  have hcell2 := Lib.hid hcell
  obtain ⟨m2, hm2⟩ : ∃ m2, Hid (q.length = m2) := ⟨_, Lib.hid rfl⟩
  rw [hm2.out] at hcap' ⊢
  have hb2 : (m2 : Int) + 1 ≤ (c' : Int) := by omega
  have hb3 : (1 : Int) ≤ (c' : Int) := by omega
  have hb4 : (1 : Int) ≤ (m2 : Int) + 1 := by omega
  have Hb := Lib.hid hB
  have hs1 := hB.size
  clear hO hl hB hcell
  by_cases hcp : c' = 1
  · obtain rfl : m2 = 0 := by omega
    have hq0 : Hid (q = []) := Lib.hid (List.eq_nil_of_length_eq_zero hm2.out)
    subst hcp
    clear hqm hql hgood K
    go_wp2_with fail
    go_loopw [6, 18] (fun v i wr => v = .slice none 0 0 ∧ i = .int .i64 0 ∧ wr = w1) (fun _ _ _ => 0)
    case atStart => exact ⟨rfl, rfl, rfl⟩
    case round =>
      obtain ⟨rfl, rfl, rfl⟩ := hrel
      go_wp2_with fail
      go_ret2
      exact ⟨_, rfl, by rw [hq0.out]; exact OwnT.nil_ _ _, Hb.out⟩
  · go_wp2_with fail
    go_loopw [6, 18] (fun v i wr => ∃ k : Nat, k ≤ m2 ∧ i = .int .i64 k ∧ OwnT wr w1.heap.size v (q.take k) ∧ Below w1.heap.size w1 wr) (fun _ i _ => m2 - (intOf i).toNat)
    case atStart => exact ⟨0, Nat.zero_le _, rfl, OwnT.nil_ _ _, Below.refl _ _⟩
    case round =>
      obtain ⟨k, hk, rfl, hO, hB1⟩ := hrel
      have hBw := Hb.out.trans (hB1.mono hs1)
      by_cases hlt2 : k < m2
      · have hc0 := (hB1.cell (p := ⟨g2, k + 1, none⟩) hg2).trans (hcell2.out (k + 1) (by have := hm2.out; omega))
        rw [cds_get (by have := hm2.out; omega)] at hc0
        have hqQ : q ∈ Q := by
          rcases hqm.out with e | e
          · have := hm2.out; rw [e] at this; simp at this; omega
          · exact e
        obtain ⟨i, a, e1, e2, e3⟩ := hgood.out.ent_at hqQ (k := k) (by have := hm2.out; omega)
        rw [e1] at hc0
        have hc1 : wr.cell? ⟨g2, 1 + k, none⟩ = some (.int .i64 ((i : Int) + 1)) := by rw [Nat.add_comm]; simpa using hc0
        obtain ⟨b2, o2, rfl, hb2', _, hc2⟩ := (hE'.out.below hBw).has i a _ e3
        obtain ⟨s, hs⟩ : ∃ s, Hid (s = q.getD k []) := ⟨_, Lib.hid rfl⟩
        have hc3 : wr.cell? ⟨b2, o2 + i * 2 + 1, none⟩ = some (.string ⟨s.toArray⟩) := by rw [hs.out]; exact hc2
        have c1 := K.out wr hBw
        have HT := Lib.hid (takeT_snoc (L := q) (k := k) (by have := hm2.out; omega) hs.out)
        have hz := hB1.size
        have hlb : Hid ((q.take k).length ≤ 1000000) := Lib.hid (Nat.le_trans (List.length_take_le k _) (by have := hm2.out; have := hql.out; omega))
        have hlo := fun g e => (hO.lt g e).1
        have hO1 := hO.alloc (.cells #[.string ⟨s.toArray⟩] 9)
        have hkk : (i : Int) + 1 - 1 = (i : Int) := by omega
        have hii : (0 : Int) ≤ (i : Int) := by omega
        clear e1 e3 hc2 hc0
        go_wp2_with (at_builtin; refine wpList_appT rfl _ _ rfl w1.heap.size _ _ rfl hO1 _ rfl s (cell_litT _ _ _ _ (by simp)) hlb.out (by rw [World.size_alloc]; omega) ?_)
        intro v' w2 hO2 hG2
        have hB2 := Lib.hid ((hB1.alloc hz (.cells #[.string ⟨s.toArray⟩] 9)).trans (hG2.below_ (by rw [World.size_alloc]; omega) hlo))
        rw [HT.out] at hO2
        have hO3 := Lib.hid hO2
        clear hO hO1 hO2 hG2 hlo hB1 hBw
        go_wp2_with fail
        go_roundw
        case rel => exact ⟨k + 1, by omega, by go_num, hO3.out, hB2.out⟩
        case measure => simp [intOf]; omega
      · have hke : Hid (q.take k = q) := Lib.hid (List.take_of_length_le (by have := hm2.out; omega))
        rw [hke.out] at hO
        go_wp2_with fail
        go_ret2
        exact ⟨_, rfl, hO.low hs1, hBw⟩
theorem path_no {w : World} {base g : Nat} {pv : Value} {bm n : Nat} {Q : List Pth} (h : Dc w base g pv bm n Q) (c : Int) (hc : ¬ (0 ≤ c ∧ c ≤ (Q.length : Int))) :
    Calls Try.prog 25 #[.pointer (some ⟨g, 0, none⟩), .int .i64 c] w fun y w' => y = .returned (.tuple #[.slice none 0 0, .int .i64 33]) ∧ w = w' := by
  have hh := Lib.hid (decide_eq_false hc)
  clear hc
  go_enter Try.func25, Try.ntmps25
  go_wp2_with fail
  refine (has_any h _ hh).mono ?_
  rintro y w' ⟨rfl, rfl⟩
  go_wp2_with fail
  go_ret2
  exact ⟨rfl, rfl⟩
end Go.Proofs.Ytccdjjpkcahgfaa
