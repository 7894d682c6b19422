/- Layer 7: Add. -/
import Derived.Test.YtccdjjpkcahgfaaDictC
import Derived.Test.YtccdjjpkcahgfaaDictQ
namespace Go.Proofs.Ytccdjjpkcahgfaa
open Go.RowKit

section
variable {w w' : World} {base g : Nat} {pv : Value} {bm n : Nat} {Q : List Pth}
/-- A row of other elements is none of a dictionary's blocks. -/
theorem Dc.foot_row (h : Dc w base g pv bm n Q) {B e size m : Nat} {v : Value} {xs : List Value} (hr : w.ownsRow B e size v m xs) (h1 : e ≠ 69) (h2 : e ≠ 77) : ∀ k, v.ownBlock = some k → ¬ foot g pv bm k := by
  intro k hk hf
  rcases hr.2 with ⟨rfl, _⟩ | ⟨g', cap, cur, rfl, _, hg, _⟩
  · cases hk
  · simp only [Value.ownBlock, Option.some.injEq] at hk
    subst hk
    rcases hf with rfl | hf | rfl
    · have hb : w.heap[g']? = some (.cells _ _ _) := h.block
      rw [hg] at hb
      simp only [Option.some.injEq, Obj.cells.injEq] at hb
      exact h1 hb.2.1
    · rcases h.row.2 with ⟨rfl, _⟩ | ⟨g2, cap2, cur2, rfl, _, hg2, _⟩
      · cases hf
      · simp only [Value.ownBlock, Option.some.injEq] at hf
        subst hf
        rw [hg] at hg2
        simp only [Option.some.injEq, Obj.cells.injEq] at hg2
        exact h2 hg2.2.1
    · obtain ⟨es, clock, he⟩ := h.map.is_map
      rw [hg] at he
      cases he
/-- .. so that it stays when that row is written. -/
theorem Dc.grown_row (h : Dc w base g pv bm n Q) {B e size m : Nat} {v : Value} {xs : List Value} (hr : w.ownsRow B e size v m xs) (h1 : e ≠ 69) (h2 : e ≠ 77) (hg : w.grownBy w' v.ownBlock) : Dc w' base g pv bm n Q :=
  h.chg (S := fun k => v.ownBlock = some k) (Chg.of_grown hg fun _ hk _ => hk) fun k hk hs => h.foot_row hr h1 h2 k hs hk
theorem HasT.chg {S : Nat → Prop} {B m c : Nat} {A : Option Addr} {l : List Txt} (h : HasT w B A m c l) (hB : B ≤ w.heap.size) (hc : Chg S w w') (hS : ∀ ad, A = some ad → ¬ S ad.block) : HasT w' B A m c l :=
  ⟨h.len, h.cap, h.fit, h.void, fun hn => by
    obtain ⟨b, o, e, hb, hcell⟩ := h.has hn
    exact ⟨b, o, e, hb, fun j u hu => (World.cell?_of_block (hc.block b (by omega) (hS _ e))).trans (hcell j u hu)⟩⟩
end
/-- What a call tells of codes: a row of the call's own, behind its first int. -/
def TellI (w : World) (B : Nat) (v : Value) (l : List Int) : Prop :=
  (v = .slice none 0 0 ∧ l = []) ∨ ∃ g c x, v = .slice (some ⟨g, 1, none⟩) l.length c ∧ OwnI w B (.slice (some ⟨g, 0, none⟩) (l.length + 1) (c + 1)) (x :: l)
theorem TellI.read {w : World} {B : Nat} {v : Value} {l : List Int} (h : TellI w B v l) : ∃ A m c, v = .slice A m c ∧ HasI w w.heap.size A m c l ∧ ∀ ad, A = some ad → B ≤ ad.block := by
  rcases h with ⟨rfl, rfl⟩ | ⟨g, c, x, rfl, hO⟩
  · exact ⟨none, 0, 0, rfl, ⟨rfl, Nat.le_refl _, Nat.zero_le _, fun _ => rfl, Has.nil_⟩, fun _ h => by cases h⟩
  · obtain ⟨A', n', c', e, hI, hb⟩ := hO.formN
    injection e with e1 e2 e3
    subst e1 e2 e3
    refine ⟨_, _, _, rfl, ?_, fun ad had => by injection had with had; subst had; exact hb ⟨g, 0, none⟩ rfl⟩
    have hcap := hI.cap
    have hl := hI.len
    refine ⟨rfl, by simp at hl; omega, by have := hI.fit; omega, (fun h => by cases h), fun hn => ?_⟩
    obtain ⟨b, o, e, hb2, hc⟩ := hI.has (by simp)
    injection e with e
    injection e with e1 e2 e3
    subst e1 e2
    refine ⟨g, 1, rfl, hb2, fun j u hu => ?_⟩
    have := hc (j + 1) u (by simpa using hu)
    rwa [Nat.zero_add, Nat.add_comm] at this

theorem Good.take_code {n : Nat} {Q : List Pth} (h : Good n Q) {p : Pth} {k : Nat} (hk : k < p.length) (hm : p.take k = [] ∨ p.take k ∈ Q) {a : Nat} (ha : fnd Q (p.take k) = a) : a ≤ Q.length ∧ pth Q a ++ [p.getD k []] = p.take (k + 1) := by
  refine ⟨by rw [← ha]; exact fnd_le, ?_⟩
  have e : pth Q a = p.take k := by
    rcases hm with e | e
    · rw [← ha, e, h.fnd_nil]; rfl
    · rw [← ha]; exact pth_fnd e
  rw [e]
  exact takeT_snoc hk rfl
theorem TellI.of {w : World} {B B' : Nat} {g c : Nat} {l : List Int} {m : Nat} (h : OwnI w B (.slice (some ⟨g, 0, none⟩) (m + 1) c) l) (hB : B' ≤ B) (hc : 1 < c) : TellI w B' (.slice (some ⟨g, 1, none⟩) m (c - 1)) (l.drop 1) := by
  have hl := h.len_
  rcases l with _ | ⟨x, r⟩
  · simp at hl
  · have e : r.length = m := by simpa using hl
    subst e
    refine .inr ⟨g, c - 1, x, rfl, ?_⟩
    rw [show c - 1 + 1 = c by omega]
    exact h.low hB

def AddPost (w : World) (base g : Nat) (pv : Value) (bm n : Nat) (Q : List Pth) (p : Pth) (y : Ending) (w' : World) : Prop :=
  ∃ v pv', y = .returned (.tuple #[v, .int .i64 ((addE n Q p : Nat) : Int)]) ∧ TellI w' w.heap.size v (addC n Q p) ∧ Dc w' base g pv' bm n (addQ n Q p) ∧ Chg (foot g pv bm) w w' ∧ ∀ k, pv'.ownBlock = some k → pv.ownBlock = some k ∨ w.heap.size ≤ k

set_option maxRecDepth 100000 in
set_option maxHeartbeats 2000000 in
theorem add_any {w : World} {base g : Nat} {pv : Value} {bm n : Nat} {Q : List Pth} (h : Dc w base g pv bm n Q) {A : Option Addr} {m c : Nat} {p : Pth} (hp : HasT w w.heap.size A m c p) (hfar : 0 < m → ∀ ad, A = some ad → ¬ foot g pv bm ad.block) :
    Calls Try.prog 21 #[.pointer (some ⟨g, 0, none⟩), .slice A m c] w (AddPost w base g pv bm n Q p) := by
  have hpl := hp.len
  have hc0 := h.c0
  by_cases hmn : m = n
  · subst hmn
    by_cases hm : mayP p
    · have hmb := Lib.hid (decide_eq_true hm)
      have hmy := may_any hp
      rw [hmb.out] at hmy
      have hnn : ((m : Int) != (m : Int)) = false := by simp
      have hD := Lib.hid h
      have Hm := Lib.hid hm
      have hm1 := h.good.lv.1
      have hm3 := h.good.lv.2
      have hQ40 := h.good.size
      have hbase : base ≤ w.heap.size := Nat.le_trans h.gb (Nat.le_of_lt h.block.lt)
      have Hpl := Lib.hid hpl
      have Hfar := Lib.hid (hfar (by omega))
      obtain ⟨b, o, _, rfl, hb, _, _⟩ := hp.at_ (k := 0) (by omega)
      have hP := Lib.hid hp
      have hcap := hp.cap
      have hcm := hp.capMax
      clear hm h hp hpl hfar hc0
      go_enter Try.func21, Try.ntmps21
      have c0 := hD.out.c0
      go_wp2_with fail
      refine hmy.mono ?_
      rintro y w1 ⟨rfl, hB1⟩
      clear hmy
      go_wp2_with fail
      refine (known_any (hD.out.below hB1) (hP.out.belowS hB1) Hm.out).mono ?_
      rintro y w2 ⟨v, k, rfl, hk, hO, hB2⟩
      have hB := hB1.trans (hB2.mono hB1.size)
      have hO := hO.low hB1.size
      have hkm : k ≤ m := by have := hk.1; have := Hpl.out; omega
      have HK := Lib.hid hk
      have hlack := hD.out.good.lack_drop hk.1 hk.2.1 hk.2.2
      have hlackl : (lackP Q p).length = m - k := by rw [hlack, List.length_drop, pres_len, Hpl.out]
      have hD2 := Lib.hid (hD.out.below hB)
      have hch2 : Hid (Chg (foot g pv bm) w w2) := Lib.hid (Chg.of_below hB (Nat.le_refl _))
      have hs2 := hB.size
      have HO := Lib.hid hO
      obtain ⟨g2, cap2, rfl, hg1, hg2, hcap', hcm', hcell⟩ := hO.formP (by rw [cds_len]; omega)
      rw [cds_len] at hcap'
      have e0 := cds_len Q p (k + 1)
      rw [e0] at HO ⊢
      have hk0 : (0 : Int) ≤ (k : Int) := by omega
      have hk1 : (k : Int) ≤ (m : Int) := by omega
      have hk2 : (m : Int) ≤ (c : Int) := by omega
      have hk3 : (k : Int) ≤ (c : Int) := by omega
      have hkk : (k : Int) + 1 - 1 = (k : Int) := by omega
      clear e0 hcell hO hk hB hB1 hB2 hmb
      by_cases h40 : Q.length + (m - k) ≤ 40
      · obtain ⟨e1, e2, e3⟩ := add_ok (n := m) (Q := Q) (p := p) ⟨Hpl.out, Hm.out⟩ (by rw [hlackl]; exact h40)
        rw [hlack, ← grown_all HK.out.1, Hpl.out] at e1 e2
        rw [← cds_drop, Hpl.out] at e2
        have H1 := Lib.hid e1
        have H2 := Lib.hid e2
        have H3 := Lib.hid e3
        have h40' : ¬ (40 : Int) < (Q.length : Int) + ((m - k : Nat) : Int) := by omega
        have H40 := Lib.hid h40
        clear e1 e2 e3 hlack hlackl h40
        by_cases hcp : c = k
        · obtain rfl : k = m := by omega
          subst hcp
          have h40'' : ¬ (40 : Int) < (Q.length : Int) := by have := H40.out; omega
          clear h40'
          have hge := hD2.out.good.lv.1
          have hc21 : ¬ cap2 = 1 := by omega
          have hx1 : (1 : Int) ≤ (c : Int) + 1 := by omega
          have hx2 : (c : Int) + 1 ≤ (cap2 : Int) := by omega
          have hx3 : (1 : Int) ≤ (cap2 : Int) := by omega
          have hT := Lib.hid (TellI.of HO.out (Nat.le_refl _) (by omega))
          have HQ : Hid (grown Q p c (c - c) = Q) := Lib.hid (by rw [Nat.sub_self, grown_zero])
          rw [HQ.out] at H1 H2
          go_wp2_with fail
          refine (len_any hD2.out).mono ?_
          rintro y w' ⟨rfl, rfl⟩
          go_wp2_with fail
          go_loopw [6, 38] (fun v i wr => v = .slice (some ⟨g2, 0, none⟩) (c + 1) cap2 ∧ i = .int .i64 0 ∧ wr = w2) (fun _ _ _ => 0)
          case atStart => exact ⟨rfl, rfl, rfl⟩
          case round =>
            obtain ⟨rfl, rfl, rfl⟩ := hrel
            go_wp2_with fail
            go_ret2
            exact ⟨_, pv, by rw [H3.out]; rfl, by rw [H2.out]; exact hT.out, by rw [H1.out]; exact hD2.out, hch2.out, fun k hk => .inl hk⟩
        · go_wp2_with fail
          refine (len_any hD2.out).mono ?_
          rintro y w' ⟨rfl, rfl⟩
          go_wp2_with fail
          go_loopw [6, 38] (fun v i wr => ∃ (j : Nat) (pv' : Value), j ≤ m - k ∧ i = .int .i64 j ∧ OwnI wr w.heap.size v (cds (grown Q p k j) p (k + j + 1)) ∧ Dc wr base g pv' bm m (grown Q p k j) ∧ Chg (foot g pv bm) w wr ∧ Hid (∀ k, pv'.ownBlock = some k → pv.ownBlock = some k ∨ w.heap.size ≤ k)) (fun _ i _ => m - (intOf i).toNat)
          case atStart => exact ⟨0, pv, Nat.zero_le _, rfl, by rw [grown_zero]; exact HO.out, by rw [grown_zero]; exact hD2.out, hch2.out, Lib.hid (fun k hk => .inl hk)⟩
          case round =>
            obtain ⟨j, pv', hj, rfl, hO, hDj, hch, hown⟩ := hrel
            by_cases hlt : j < m - k
            · have hkj : k + j < p.length := by have := Hpl.out; omega
              have hgj := grown_good hD.out.good Hm.out.2 (Nat.le_of_eq Hpl.out) HK.out (by rw [Hpl.out]; exact H40.out) (j := j) (by have := Hpl.out; omega)
              have hgj1 := grown_good hD.out.good Hm.out.2 (Nat.le_of_eq Hpl.out) HK.out (by rw [Hpl.out]; exact H40.out) (j := j + 1) (by omega)
              obtain ⟨s, hs⟩ : ∃ s, Hid (s = p.getD (k + j) []) := ⟨_, Lib.hid rfl⟩
              obtain ⟨a, ha⟩ : ∃ a, Hid (fnd (grown Q p k j) (p.take (k + j)) = a) := ⟨_, Lib.hid rfl⟩
              obtain ⟨hal, htk⟩ := hgj.take_code (p := p) (k := k + j) hkj (by
                rcases Nat.eq_zero_or_pos (k + j) with h0 | h0
                · left; rw [h0]; rfl
                · right
                  obtain ⟨i, hi⟩ : ∃ i, k + j = i + 1 := ⟨k + j - 1, by omega⟩
                  rw [hi]
                  exact grown_mem HK.out (by omega) (by omega)) ha.out
              rw [← hs.out] at htk
              have hsn : nameP s := Hm.out.2 s (by rw [hs.out, List.getD_eq_getElem?_getD, List.getElem?_eq_getElem hkj]; exact List.getElem_mem _)
              have hnew : pth (grown Q p k j) a ++ [s] ∉ grown Q p k j := by rw [htk]; exact grown_new HK.out (by omega) hkj hD.out.good
              rw [grown_succ hkj, ← htk] at hgj1
              have hcome := come_any hDj hal hsn hnew hgj1
              rw [htk, ← grown_succ hkj, grown_len (by omega)] at hcome
              have hcd := Lib.hid (grown_cds hD.out.good HK.out hkj)
              have hpw := (hP.out.chg (Nat.le_refl _) hch Hfar.out).has
              obtain ⟨b', o', eb, _, hcl⟩ := hpw (by simp; omega)
              injection eb with eb
              injection eb with eb1 eb2 _
              subst eb1 eb2
              have hcs : wr.cell? ⟨b, o + k + j, none⟩ = some (.string ⟨s.toArray⟩) := by
                rw [Nat.add_assoc, hs.out]
                exact hcl (k + j) _ (by simp [strV, List.getElem?_map, List.getD_eq_getElem?_getD, List.getElem?_eq_getElem hkj])
              obtain ⟨r, hr⟩ : ∃ r, Hid (k + j = r) := ⟨_, Lib.hid rfl⟩
              have hfr := hDj.foot_row hO (by decide) (by decide)
              obtain ⟨g3, cap3, rfl, hg31, hg32, hcap3, hcm3, hcell3⟩ := hO.formP (by rw [cds_len]; omega)
              have hck := hcell3 (k + j) (by rw [cds_len]; omega)
              rw [cds_get (by omega), ha.out, hr.out] at hck
              rw [cds_len, hr.out] at hcap3
              have e0 := cds_len (grown Q p k j) p (k + j + 1)
              rw [hr.out] at hO e0 hcd
              rw [e0] at hO
              simp only [hr.out]
              rw [e0]
              have HOj := Lib.hid hO
              have hrr : (r : Int) + 1 - 1 = (r : Int) := by omega
              have hr0 : (0 : Int) ≤ (r : Int) := by omega
              have hjj : ((j : Nat) : Int) < ((m - k : Nat) : Int) := by omega
              have hsz := hch.size
              have Hch := Lib.hid hch
              obtain ⟨d, hd⟩ : ∃ d, Hid (Q.length + j + 1 = d) := ⟨_, Lib.hid rfl⟩
              rw [hd.out] at hcome hcd
              have hcome2 := Lib.hid hcome
              have Hlt := Lib.hid hlt
              have hr40 : Hid (r ≤ 100) := Lib.hid (by rw [← hr.out]; omega)
              clear hpw hcl hsn hnew htk hgj hgj1 hcome hO hDj hch hkj hcell3 e0 hal
              go_wp2_with fail
              refine hcome2.out.mono ?_
              rintro y w3 ⟨pv3, rfl, hD3, hch3, hown3⟩
              have hO3 := hch3.row HOj.out hfr
              have hO4 : OwnI (w3.alloc (.cells #[.int .i64 (d : Int)] 3)) w.heap.size (.slice (some ⟨g3, 0, none⟩) (r + 1) cap3) (cds (grown Q p k j) p (r + 1)) := World.ownsRow.alloc hO3 _
              have hD4 := hD3.below (below_a1 w3 (.cells #[.int .i64 (d : Int)] 3))
              have hsz3 := Nat.le_trans hsz hch3.size
              have hll : Hid ((cds (grown Q p k j) p (r + 1)).length ≤ 1000000) := Lib.hid (by rw [cds_len]; have := hr40.out; omega)
              have hch4 : Chg (foot g pv bm) w (w3.alloc (.cells #[.int .i64 (d : Int)] 3)) := (Hch.out.trans hch3 (fun k hk hf => by
                rcases hf with hf | hf | hf
                · exact .inl hf
                · rcases hown.out k hf with h1 | h1
                  · exact .inr (.inl h1)
                  · omega
                · exact .inr (.inr hf))).alloc _
              have hown4 : Hid (∀ k, pv3.ownBlock = some k → pv.ownBlock = some k ∨ w.heap.size ≤ k) := Lib.hid fun k hk => by
                rcases hown3 k hk with h1 | h1
                · exact hown.out k h1
                · exact .inr (Nat.le_trans hsz h1)
              have HD4 := Lib.hid hD4
              have Hch4 := Lib.hid hch4
              clear hO3 hD3 hch3 hown3 hD4 hch4 hcome2
              go_wp2_with (at_builtin; refine wpList_appI rfl _ _ rfl w.heap.size _ _ rfl hO4 _ rfl d (cell_lit _ _ _ _ (by simp)) hll.out (by rw [World.size_alloc]; omega) ?_)
              intro v4 w4 hO5 hG5
              have hD5 := Lib.hid (HD4.out.grown_row hO4 (by decide) (by decide) hG5.1)
              have hch5 := Lib.hid (Hch4.out.trans (S' := fun k => (Value.slice (some ⟨g3, 0, none⟩) (r + 1) cap3).ownBlock = some k) (c := w4) (Chg.of_grown hG5.1 fun k hk _ => hk) (fun k hk hs => by
                have := (World.ownsRow.lt HOj.out k hs).1
                omega))
              have hO6 : Hid (OwnI w4 w.heap.size v4 (cds (grown Q p k (j + 1)) p (k + (j + 1) + 1))) := Lib.hid (by rw [hcd.out]; exact hO5)
              clear hO4 hO5 hG5
              go_wp2_with fail
              go_roundw
              case rel => exact ⟨j + 1, pv3, by have := Hlt.out; omega, by go_num, hO6.out, hD5.out, hch5.out, hown4⟩
              case measure => have := Hlt.out; simp [intOf]; omega
            · obtain rfl : j = m - k := by omega
              have hkj : k + (m - k) + 1 = m + 1 := by omega
              rw [hkj] at hO
              obtain ⟨g3, cap3, rfl, hg31, hg32, hcap3, hcm3, _⟩ := hO.formP (by rw [cds_len]; omega)
              rw [cds_len] at hcap3
              have e0 := cds_len (grown Q p k (m - k)) p (m + 1)
              rw [e0] at hO ⊢
              have hT := Lib.hid (TellI.of hO (Nat.le_refl _) (by omega))
              rw [← H2.out] at hT
              have hx1 : (1 : Int) ≤ (m : Int) + 1 := by omega
              have hx2 : (m : Int) + 1 ≤ (cap3 : Int) := by omega
              have hx3 : (1 : Int) ≤ (cap3 : Int) := by omega
              have hc31 : ¬ cap3 = 1 := by omega
              rw [← H1.out] at hDj
              have hF := Lib.hid (show Dc wr base g pv' bm m (addQ m Q p) ∧ Chg (foot g pv bm) w wr ∧ _ from ⟨hDj, hch, hown.out⟩)
              clear e0 hO hDj hch hown hkj hlt hj
              go_wp2_with fail
              go_ret2
              exact ⟨_, pv', by rw [H3.out]; rfl, hT.out, hF.out.1, hF.out.2.1, hF.out.2.2⟩
      · obtain ⟨e1, e2, e3⟩ := add_full (n := m) (Q := Q) (p := p) ⟨Hpl.out, Hm.out⟩ (by rw [hlackl]; omega)
        have H1 := Lib.hid e1
        have H2 := Lib.hid e2
        have H3 := Lib.hid e3
        have h40' : (40 : Int) < (Q.length : Int) + ((m - k : Nat) : Int) := by omega
        have hcp : ¬ c = k := by omega
        clear e1 e2 e3 hlack hlackl h40
        go_wp2_with fail
        refine (len_any hD2.out).mono ?_
        rintro y w' ⟨rfl, rfl⟩
        go_wp2_with fail
        go_ret2
        exact ⟨_, pv, by rw [H3.out]; rfl, by rw [H2.out]; exact .inl ⟨rfl, rfl⟩, by rw [H1.out]; exact hD2.out, hch2.out, fun k hk => .inl hk⟩
    · obtain ⟨e1, e2, e3⟩ := add_name (n := m) (Q := Q) (p := p) (fun a => hm a.2)
      have H1 := Lib.hid e1
      have H2 := Lib.hid e2
      have H3 := Lib.hid e3
      have hmb := Lib.hid (decide_eq_false hm)
      have hmy := may_any hp
      rw [hmb.out] at hmy
      have hnn : ((m : Int) != (m : Int)) = false := by simp
      have hD := Lib.hid h
      clear hm e1 e2 e3 h
      go_enter Try.func21, Try.ntmps21
      go_wp2_with fail
      refine hmy.mono ?_
      rintro y w1 ⟨rfl, hB1⟩
      go_wp2_with fail
      go_ret2
      exact ⟨_, pv, by rw [H3.out]; rfl, by rw [H2.out]; exact .inl ⟨rfl, rfl⟩, by rw [H1.out]; exact hD.out.below hB1, Chg.of_below hB1 (Nat.le_refl _), fun k hk => .inl hk⟩
  · obtain ⟨e1, e2, e3⟩ := add_name (n := n) (Q := Q) (p := p) (fun a => hmn (by rw [← hpl]; exact a.1))
    have H1 := Lib.hid e1
    have H2 := Lib.hid e2
    have H3 := Lib.hid e3
    have hnn : ((m : Int) != (n : Int)) = true := by simp; omega
    have hD := Lib.hid h
    clear e1 e2 e3 h hmn
    go_enter Try.func21, Try.ntmps21
    go_wp2_with fail
    go_ret2
    exact ⟨_, pv, by rw [H3.out]; rfl, by rw [H2.out]; exact .inl ⟨rfl, rfl⟩, by rw [H1.out]; exact hD.out, Chg.refl _ _, fun k hk => .inl hk⟩
end Go.Proofs.Ytccdjjpkcahgfaa
