/- Layer 7's statements: both. -/
import Derived.Test.YtccdjjpkcahgfaaDictJ
import Derived.Test.YtccdjjpkcahgfaaDictI
namespace Go.Proofs.Ytccdjjpkcahgfaa
open Go.RowKit

section
variable {w w' : World}
theorem HasTs.below {A : Option Addr} {n c : Nat} {L : List Pth} (h : HasTs w A n c L) (hb : Below w.heap.size w w') : HasTs w' A n c L :=
  ⟨h.len, h.cap, h.fit, h.void, fun i q hi => by
    obtain ⟨b, o, A', n', c', h1, h2, h3, h4⟩ := h.has i q hi
    exact ⟨b, o, A', n', c', h1, Nat.lt_of_lt_of_le h2 hb.size, (hb.cell (p := ⟨b, o + i, none⟩) h2).trans h3, h4.belowS hb⟩⟩
/-- What came in as rows of rows of texts, by its type. -/
theorem RC.textss {P : Program} {w : World} {t e f : TypeId} {a : Option Addr} {n c : Nat} (ht : P.underlying t = some (.slice e)) (he : P.underlying e = some (.slice f)) (hf : P.underlying f = some .string) (hc : P.cellsOf e = 1) (hc' : P.cellsOf f = 1) (h : RC P w t [.slice a n c]) :
    ∃ L, HasTs w a n c L := by
  have hs := h.slice ht
  have hshape : n ≤ c ∧ c ≤ maxLen ∧ (a = none → c = 0) := by
    rcases hs with ⟨h1, h2, h3⟩ | ⟨ad, h1, h2, h3, _⟩
    · subst h2 h3; exact ⟨Nat.le_refl _, Nat.zero_le _, fun _ => rfl⟩
    · exact ⟨h2, h3, fun e => by rw [h1] at e; cases e⟩
  rcases Nat.eq_zero_or_pos n with h0 | h0
  · subst h0
    exact ⟨[], ⟨rfl, Nat.zero_le _, hshape.2.1, hshape.2.2, fun i q hi => by simp at hi⟩⟩
  · obtain ⟨b, o, rfl, hb, _, _, hi⟩ := h.rows ht (by omega) h0
    have key : ∀ i, ∃ l : Pth, (i < n → ∃ A' n' c', w.cell? ⟨b, o + i, none⟩ = some (.slice A' n' c') ∧ HasT w w.heap.size A' n' c' l) := fun i => by
      by_cases hin : i < n
      · obtain ⟨cs, hl, hcell, hr⟩ := hi i hin
        obtain ⟨A', n', c', rfl⟩ := hr.slice_shape he
        obtain ⟨l, h1, _⟩ := hr.texts he hf hc'
        have h3 := hcell 0 (by omega)
        rw [hc, Nat.mul_one, Nat.add_zero] at h3
        exact ⟨l, fun _ => ⟨A', n', c', h3, h1⟩⟩
      · exact ⟨[], fun h => absurd h hin⟩
    obtain ⟨g, hg⟩ := Classical.axiomOfChoice key
    refine ⟨(List.range n).map g, ⟨by simp, hshape.1, hshape.2.1, hshape.2.2, fun i q hq => ?_⟩⟩
    have hin : i < n := by have := (List.getElem?_eq_some_iff.1 hq).1; simpa using this
    rw [List.getElem?_map, List.getElem?_range hin] at hq
    simp only [Option.map_some, Option.some.injEq] at hq
    subst hq
    obtain ⟨A', n', c', h1, h2⟩ := hg i hin
    exact ⟨b, o, A', n', c', rfl, hb, h1, h2⟩
end
section
variable {w w' : World} {base g : Nat} {pv : Value} {bm n : Nat} {Q : List Pth} {base' r n' : Nat} {Lv : Value} {Q' : List Pth}
theorem Dc.foot_ty (h : Dc w base g pv bm n Q) {k : Nat} (hk : foot g pv bm k) : ∀ cs e fr, w.heap[k]? = some (.cells cs e fr) → e = 69 ∨ e = 77 := by
  intro cs e fr he
  rcases hk with rfl | hk | rfl
  · have hb : w.heap[k]? = some (.cells _ _ _) := h.block
    rw [he] at hb
    simp only [Option.some.injEq, Obj.cells.injEq] at hb
    exact .inl hb.2.1
  · rcases h.row.2 with ⟨rfl, _⟩ | ⟨g2, cap2, cur2, rfl, _, hg2, _⟩
    · cases hk
    · simp only [Value.ownBlock, Option.some.injEq] at hk
      subst hk
      rw [he] at hg2
      simp only [Option.some.injEq, Obj.cells.injEq] at hg2
      exact .inr hg2.2.1
  · obtain ⟨es, clock, hm⟩ := h.map.is_map
    rw [he] at hm
    cases hm
theorem Rf.foot_ty (h : Rf w base' r n' Lv Q') {k : Nat} (hk : footR r Lv k) : ∃ cs e fr, w.heap[k]? = some (.cells cs e fr) ∧ (e = 49 ∨ e = 30) := by
  rcases hk with rfl | hk
  · exact ⟨_, _, _, h.block, .inl rfl⟩
  · obtain ⟨vs, h1, _⟩ := h.row
    rcases h1.2 with ⟨rfl, _⟩ | ⟨g2, cap2, cur2, rfl, _, hg2, _⟩
    · cases hk
    · simp only [Value.ownBlock, Option.some.injEq] at hk
      subst hk
      exact ⟨_, _, _, hg2, .inr rfl⟩
theorem foots_apart (h : Dc w base g pv bm n Q) (h' : Rf w base' r n' Lv Q') {k : Nat} (hk : foot g pv bm k) : ¬ footR r Lv k := by
  intro hr
  obtain ⟨cs, e, fr, he, ht⟩ := h'.foot_ty hr
  rcases h.foot_ty hk cs e fr he with h1 | h1 <;> rcases ht with h2 | h2 <;> · rw [h1] at h2; exact absurd h2 (by decide)
theorem Rf.past (h' : Rf w base' r n' Lv Q') (h : Dc w base g pv bm n Q) (hc : Chg (foot g pv bm) w w') : Rf w' base' r n' Lv Q' :=
  h'.chg hc (fun k hk cs e fr he => by rcases h.foot_ty hk cs e fr he with rfl | rfl <;> exact ⟨by decide, by decide⟩) (fun hr => foots_apart h h' hr (.inl rfl))
theorem Dc.past (h : Dc w base g pv bm n Q) (h' : Rf w base' r n' Lv Q') (hc : Chg (footR r Lv) w w') : Dc w' base g pv bm n Q := h.chg hc fun _ hk => foots_apart h h' hk
theorem TellI.past {B : Nat} {v : Value} {l : List Int} (ht : TellI w B v l) (h' : Rf w base' r n' Lv Q') (hc : Chg (footR r Lv) w w') : TellI w' B v l :=
  ht.chg hc fun {v'} {xs} {m} hr k hk hf => by
    obtain ⟨cs, e, fr, he, ht⟩ := h'.foot_ty hf
    rcases hr.2 with ⟨rfl, _⟩ | ⟨g2, cap2, cur2, rfl, _, hg2, _⟩
    · cases hk
    · simp only [Value.ownBlock, Option.some.injEq] at hk
      subst hk
      rw [he] at hg2
      simp only [Option.some.injEq, Obj.cells.injEq] at hg2
      rw [hg2.2.1] at ht
      rcases ht with h1 | h1 <;> exact absurd h1 (by decide)
theorem Rf.foot_base (h : Rf w base' r n' Lv Q') {k : Nat} (hk : footR r Lv k) : base' ≤ k ∧ k < w.heap.size := by
  rcases hk with rfl | hk
  · exact ⟨h.rb, h.block.lt⟩
  · exact h.row.lt k hk
end
/-- Both dictionaries, alike. -/
structure Two (w : World) (B g bm r n : Nat) (pv Lv : Value) (Q : List Pth) : Prop where
  d : Dc w B g pv bm n Q
  f : Rf w B r n Lv Q
  whole : Whole n Q
theorem Two.below {w w' : World} {B g bm r n : Nat} {pv Lv : Value} {Q : List Pth} (h : Two w B g bm r n pv Lv Q) (hb : Below w.heap.size w w') : Two w' B g bm r n pv Lv Q := ⟨h.d.below hb, h.f.below hb, h.whole⟩
theorem Two.new (w : World) {w1 : World} {n : Nat} {g bm : Nat} (hD : Dc w1 w.heap.size g (.slice none 0 0) bm n []) (hs : w.heap.size ≤ w1.heap.size) (r : Nat) (hr : r = w1.heap.size) : Two (w1.alloc (.cells #[.int .i64 (n : Int), .slice none 0 0] 49)) w.heap.size g bm r n (.slice none 0 0) (.slice none 0 0) [] := by
  subst hr
  exact ⟨hD.below (below_a1 _ _), ⟨Block.new _ _ _, OwnTs.nil_ _ _, hs, hD.good⟩, whole_nil n⟩
def BothPost (w : World) (e : Ending) (w' : World) : Prop :=
  (∃ (g bm r n : Nat) (pv Lv : Value) (Q : List Pth), e = .returned (.tuple #[.pointer (some ⟨g, 0, none⟩), .pointer (some ⟨r, 0, none⟩), .bool true]) ∧ Two w' w.heap.size g bm r n pv Lv Q) ∧ Below w.heap.size w w'
set_option maxRecDepth 100000 in
set_option maxHeartbeats 2000000 in
theorem both_any (lv : Int) (h : -9223372036854775808 ≤ lv) (h' : lv ≤ 9223372036854775807) {w : World} {A : Option Addr} {m c : Nat} {L : List Pth} (hL : HasTs w A m c L) :
    Calls Try.prog 8 #[.int .i64 lv, .slice A m c] w (BothPost w) := by
  have hpk := pick_any lv h h' w
  have hcap := hL.cap
  have hcm : c ≤ 9223372036854775807 := by have := hL.fit; unfold maxLen at this; omega
  have HL := Lib.hid hL
  go_enter Try.func8, Try.ntmps8
  go_wp2_with fail
  refine hpk.mono ?_
  rintro e w' ⟨⟨p, hp, rfl⟩, rfl⟩
  obtain ⟨n, hn⟩ : ∃ n : Nat, (1 : Int) + (p : Int) = (n : Int) := ⟨1 + p, by omega⟩
  have hn3 : 1 ≤ n ∧ n ≤ 3 := by omega
  have hnw := new_any w hn3
  clear hpk h h' hL
  go_wp2_with fail
  refine hnw.mono ?_
  rintro e w1 ⟨rfl, hD, hB1⟩
  have hs1 := hB1.size
  have hT0 := Lib.hid (Two.new w hD hs1 _ rfl)
  have hB2 := hB1.alloc hs1 (.cells #[.int .i64 (n : Int), .slice none 0 0] 49)
  obtain ⟨r, hr⟩ : ∃ r, r = w1.heap.size := ⟨_, rfl⟩
  clear hD hnw hB1 hn3
  go_wp2_with fail
  rw [← hr] at hT0 ⊢
  generalize w1.alloc (.cells #[.int .i64 (n : Int), .slice none 0 0] 49) = w2 at hT0 hB2 ⊢
  clear hr hs1
  go_wp2_with fail
  go_loopw [10] (fun i wr => ∃ (k : Nat) (pv Lv : Value) (Q : List Pth), k ≤ m ∧ i = .int .i64 k ∧ Hid (Two wr w.heap.size (w.heap.size + 1) w.heap.size r n pv Lv Q) ∧ Below w.heap.size w wr) (fun i _ => m - (intOf i).toNat)
  case atStart => exact ⟨0, _, _, _, Nat.zero_le _, rfl, hT0, hB2⟩
  case round =>
    obtain ⟨k, pv, Lv, Q, hk, rfl, hT, hB⟩ := hrel
    by_cases hlt : k < m ∧ k < 60
    · obtain ⟨q, hq⟩ : ∃ q, Hid (L[k]? = some q) := ⟨_, Lib.hid (List.getElem?_eq_getElem (by rw [HL.out.len]; exact hlt.1))⟩
      obtain ⟨b, o, A', m', c', rfl, hb, hc, hP⟩ := HL.out.has k q hq.out
      have hP1 := hP.below hB (Nat.le_refl _)
      have hc1 := (hB.cell (p := ⟨b, o + k, none⟩) hb).trans hc
      have hfar : ∀ (S : Nat → Prop), (∀ k, S k → w.heap.size ≤ k) → 0 < m' → ∀ ad, A' = some ad → ¬ S ad.block := fun S hS hm' ad e hs => by
        obtain ⟨b', o', e', hb', _⟩ := hP.has (by rw [List.length_map, hP.len]; exact hm')
        rw [e'] at e
        injection e with e
        subst e
        have := hS _ hs
        have hb'' : b' < w.heap.size := hb'
        simp at this
        omega
      have hs := hB.size
      have hadd := add_any hT.out.d (hP1.more hs) (hfar _ (fun k hk => (hT.out.d.foot_base hk).1))
      have hk0 : (0 : Int) ≤ (k : Int) := by omega
      have hk1 : (k : Int) < (m : Int) := by omega
      have hk2 : (k : Int) < 60 := by omega
      have HP := Lib.hid hP
      have Hfar := Lib.hid hfar
      have Hb : Hid (b < w.heap.size) := Lib.hid hb
      have Hc := Lib.hid hc
      clear hP hP1 hfar hc
      go_wp2_with fail
      refine hadd.mono ?_
      rintro e w3 ⟨va, pv3, rfl, hTa, hD3, hch3, _⟩
      have hB3 := hB.trans (hch3.below hs (fun k hk => (hT.out.d.foot_base hk).1))
      have hF3 := hT.out.f.past hT.out.d hch3
      have hP3 := HP.out.below hB3 (Nat.le_refl _)
      have hc3 := (hB3.cell (p := ⟨b, o + k, none⟩) Hb.out).trans Hc.out
      have hs3 := hB3.size
      have hadd2 := refAdd_any hF3 (hP3.more hs3) (Hfar.out _ (fun k hk => (hF3.foot_base hk).1))
      have HD3 := Lib.hid hD3
      have HF3 := Lib.hid hF3
      have HTa := Lib.hid hTa
      obtain ⟨Aa, ma, ca, rfl, hIa0, _⟩ := hTa.read
      clear hadd hTa hD3 hch3 hF3 hP3 hB hIa0 hc1
      go_wp2_with fail
      refine hadd2.mono ?_
      rintro e w4 ⟨vb, Lv4, rfl, hOb, hF4, hch4, _⟩
      have hB4 := hB3.trans (hch4.below hs3 (fun k hk => (HF3.out.foot_base hk).1))
      have hD4 := HD3.out.past HF3.out hch4
      have hTa4 := HTa.out.past HF3.out hch4
      obtain ⟨_, _, _, ea, hIa, _⟩ := hTa4.read
      injection ea with ea1 ea2 ea3
      subst ea1 ea2 ea3
      obtain ⟨Ab, mb, cb, rfl, hIb, _⟩ := hOb.formN
      have hin := ints_same hIa hIb
      have HT4 := Lib.hid (show Two w4 w.heap.size (w.heap.size + 1) w.heap.size r n pv3 Lv4 (addQ n Q q) from ⟨hD4, hF4, Whole.add hT.out.d.good hT.out.whole⟩)
      have hee : (((addE n Q q : Nat) : Int) != ((addE n Q q : Nat) : Int)) = false := by simp
      clear hadd2 hTa4 hOb hF4 hch4 hD4 hIa hIb HTa hc3 hB3
      go_wp2_with fail
      refine hin.mono ?_
      rintro e w5 ⟨rfl, j, rfl⟩
      have HT5 : Hid (Two (w4.drewN j) w.heap.size (w.heap.size + 1) w.heap.size r n pv3 Lv4 (addQ n Q q)) := Lib.hid ⟨HT4.out.d.drewN j, HT4.out.f.drewN j, HT4.out.whole⟩
      have hB5 := below_drewN hB4 j
      clear hin
      go_wp2_with fail
      go_roundw
      case rel => exact ⟨k + 1, pv3, Lv4, _, by omega, by go_num, HT5, hB5⟩
      case measure => simp [intOf]; omega
    · by_cases hkm : k < m
      · have h1 : (k : Int) < (m : Int) := by omega
        have h2 : ¬ (k : Int) < 60 := by omega
        clear hlt
        go_wp2_with fail
        go_ret3
        exact ⟨⟨w.heap.size + 1, w.heap.size, r, n, pv, Lv, Q, rfl, hT.out⟩, hB⟩
      · have h1 : ¬ (k : Int) < (m : Int) := by omega
        clear hlt
        go_wp2_with fail
        go_ret3
        exact ⟨⟨w.heap.size + 1, w.heap.size, r, n, pv, Lv, Q, rfl, hT.out⟩, hB⟩
end Go.Proofs.Ytccdjjpkcahgfaa
