/- Layer 7: the reference's Add. -/
import Derived.Test.YtccdjjpkcahgfaaDictR
import Derived.Test.YtccdjjpkcahgfaaDictA
namespace Go.Proofs.Ytccdjjpkcahgfaa
open Go.RowKit

theorem pres_take {p : Pth} {k : Nat} (h : k < p.length) : (pres p).take (k + 1) = (pres p).take k ++ [p.take (k + 1)] := by
  rw [List.take_add_one, pres_get h]
  rfl
theorem RefAdd_all (p : Pth) : (pres p).take p.length = pres p := List.take_of_length_le (by rw [pres_len]; exact Nat.le_refl _)
/-- What is lacking of the first k. -/
def lks (Q : List Pth) (p : Pth) (k : Nat) : List Pth := ((pres p).take k).filter fun q => decide (q ∉ Q)
theorem lks_len (Q : List Pth) (p : Pth) (k : Nat) : (lks Q p k).length ≤ p.length := by
  unfold lks
  exact Nat.le_trans (List.length_filter_le _ _) (Nat.le_trans (List.length_take_le' _ _) (by rw [pres_len]; exact Nat.le_refl _))
theorem lks_all (Q : List Pth) (p : Pth) : lks Q p p.length = lackP Q p := by unfold lks lackP; rw [RefAdd_all]
def RefAddPost (w : World) (base r n : Nat) (Lv : Value) (Q : List Pth) (p : Pth) (y : Ending) (w' : World) : Prop :=
  ∃ v Lv', y = .returned (.tuple #[v, .int .i64 ((addE n Q p : Nat) : Int)]) ∧ OwnI w' w.heap.size v (addC n Q p) ∧ Rf w' base r n Lv' (addQ n Q p) ∧ Chg (footR r Lv) w w' ∧ ∀ k, Lv'.ownBlock = some k → Lv.ownBlock = some k ∨ w.heap.size ≤ k

set_option maxRecDepth 100000 in
set_option maxHeartbeats 2000000 in
theorem refAdd_any {w : World} {base r n : Nat} {Lv : Value} {Q : List Pth} (h : Rf w base r n Lv Q) {A : Option Addr} {m c : Nat} {p : Pth} (hp : HasT w w.heap.size A m c p) (hfar : 0 < m → ∀ ad, A = some ad → ¬ footR r Lv ad.block) :
    Calls Try.prog 22 #[.pointer (some ⟨r, 0, none⟩), .slice A m c] w (RefAddPost w base r n Lv Q p) := by
  have hpl := hp.len
  have hc0 := h.c0
  have hmy := refMay_any hp
  by_cases hm : mayP p
  · rw [decide_eq_true hm] at hmy
    by_cases hmn : m = n
    · subst hmn
      obtain ⟨A2, cap, rfl, hTs⟩ := h.row.form
      have hc1 := h.c1
      have hm3 : m ≤ 3 := h.good.lv.2
      have hQ := h.good.size
      have hcm := hp.capMax
      have hcap := hp.cap
      have hnn : ((m : Int) != (m : Int)) = false := by simp
      have HH := Lib.hid h
      have HP := Lib.hid hp
      have Hm := Lib.hid hm
      have HL := Lib.hid hpl
      have Hfar := Lib.hid (hfar (by have := h.good.lv.1; omega))
      have hrl := h.block.lt
      have hbase : base ≤ w.heap.size := Nat.le_trans h.rb (Nat.le_of_lt hrl)
      have K : Hid (∀ y, Below w.heap.size w y → y.cell? ⟨r, 1, none⟩ = some (.slice A2 Q.length cap) ∧ Rf y base r m (.slice A2 Q.length cap) Q ∧ HasT y w.heap.size A m c p) := Lib.hid fun y hy => ⟨(hy.cell (p := ⟨r, 1, none⟩) hrl).trans hc1, h.below hy, hp.below hy (Nat.le_refl _)⟩
      clear hTs hm hpl hfar hp h
      go_enter Try.func22, Try.ntmps22
      go_wp2_with fail
      refine hmy.mono ?_
      rintro y w1 ⟨rfl, rfl⟩
      clear hmy
      go_wp2_with fail
      clear hnn
      go_loopw [7, 8] (fun v i wr => ∃ s : Nat, 1 ≤ s ∧ s ≤ m + 1 ∧ i = .int .i64 s ∧ OwnTs wr w.heap.size v (lks Q p (s - 1)) ∧ Below w.heap.size w wr) (fun _ i _ => m + 1 - (intOf i).toNat)
      case atStart => exact ⟨1, Nat.le_refl _, by omega, rfl, OwnTs.nil_ _ _, Below.refl _ _⟩
      case round =>
        obtain ⟨s, hs1, hsm, rfl, hO, hB⟩ := hrel
        by_cases hlt : s ≤ m
        · obtain ⟨c1, hRf, hPw⟩ := K.out wr hB
          obtain ⟨x, hx⟩ : ∃ x, Hid (fnd Q (p.take s) = x) := ⟨_, Lib.hid rfl⟩
          have hPt := hPw.take_ s hlt
          have hf := refFind_any hRf hPt hx
          have hpt := Lib.hid (show (pres p).take s = (pres p).take (s - 1) ++ [p.take s] from by
            have := pres_take (p := p) (k := s - 1) (by have := HL.out; omega)
            rwa [Nat.sub_add_cancel hs1] at this)
          have h1 : (s : Int) ≤ (m : Int) := by omega
          have h2 : (s : Int) ≤ (c : Int) := by omega
          have h3 : (0 : Int) ≤ (s : Int) := by omega
          by_cases hin : p.take s ∈ Q
          · have hx0 : ((x : Int) == 0) = false := by have := fnd_pos.2 hin; rw [hx.out] at this; simp; omega
            have hfl : Hid (lks Q p (s + 1 - 1) = lks Q p (s - 1)) := Lib.hid (by
              rw [Nat.add_sub_cancel]
              unfold lks
              rw [hpt.out, List.filter_append]
              simp [hin])
            clear hin hRf hPw hPt
            go_wp2_with fail
            refine hf.mono ?_
            rintro y w2 ⟨rfl, j, rfl⟩
            go_wp2_with fail
            go_roundw
            case rel => exact ⟨s + 1, by omega, by omega, by go_num, by rw [hfl.out]; exact hO.drewN j, below_drewN hB j⟩
            case measure => simp [intOf]; omega
          · obtain rfl : x = 0 := by rw [← hx.out]; exact fnd_no hin
            have hfl : Hid (lks Q p (s + 1 - 1) = lks Q p (s - 1) ++ [p.take s]) := Lib.hid (by
              rw [Nat.add_sub_cancel]
              unfold lks
              rw [hpt.out, List.filter_append]
              simp [hin])
            have hll : Hid ((lks Q p (s - 1)).length ≤ 1000000) := Lib.hid (Nat.le_trans (lks_len _ _ _) (by have := HL.out; omega))
            have hsz := hB.size
            have hlo := fun k e => (hO.lt k e).1
            clear hin hRf hPw
            go_wp2_with fail
            refine hf.mono ?_
            rintro y w2 ⟨rfl, j, rfl⟩
            go_wp2_with (at_builtin; refine wpList_appTs rfl _ _ rfl wr.heap.size _ [] rfl (OwnT.nil_ _ _) _ A s c _ rfl (hPt.drewN j) (by simp; omega) (Nat.le_refl _) ?_)
            intro v3 w3 hO3 hG3
            obtain ⟨A3, n3, c3, rfl, hT3, _⟩ := hO3.formN
            clear hT3
            have hB3 : Below wr.heap.size wr w3 := below_then (Below.refl _ _) (show Below wr.heap.size wr w3 from ⟨hG3.1.os, hG3.1.tape, hG3.1.output, hG3.1.size, fun k hk => hG3.1.block k hk (by simp [Value.ownBlock])⟩)
            have hO4 : OwnTs (w3.alloc (.cells #[.slice A3 n3 c3] 30)) w.heap.size _ _ := (hO.below hB3).alloc _
            have hy4 : OwnT (w3.alloc (.cells #[.slice A3 n3 c3] 30)) w.heap.size (.slice A3 n3 c3) (p.take s) := by simpa using (hO3.alloc (.cells #[.slice A3 n3 c3] 30)).low hsz
            have hs3 := Nat.le_trans hsz hB3.size
            have hB4 := (hB.trans (hB3.mono hsz)).alloc hs3 (.cells #[.slice A3 n3 c3] 30)
            have HO4 := Lib.hid hO4
            have Hy4 := Lib.hid hy4
            clear hO hO3 hG3 hO4 hy4 hB3 hPt
            go_wp2_with (at_builtin; refine wpList_appR rfl _ _ rfl w.heap.size _ _ rfl HO4.out _ rfl (.slice A3 n3 c3) (p.take s) (cell_litT _ _ _ _ (by simp)) Hy4.out hll.out (by rw [World.size_alloc]; omega) ?_)
            intro v5 w5 hO5 hG5
            have hB5 := Lib.hid (hB4.trans (hG5.below_ (by rw [World.size_alloc]; omega) hlo))
            rw [← hfl.out] at hO5
            have HO5 := Lib.hid hO5
            clear hO5 hG5 hB4 hB hlo
            go_wp2_with fail
            go_roundw
            case rel => exact ⟨s + 1, by omega, by omega, by go_num, HO5.out, hB5.out⟩
            case measure => simp [intOf]; omega
        · have hsl : lks Q p (s - 1) = lackP Q p := by rw [show s - 1 = p.length by have := HL.out; omega]; exact lks_all Q p
          rw [hsl] at hO
          obtain ⟨c1, hRf, hPw⟩ := K.out wr hB
          obtain ⟨A4, c4, rfl, hT4⟩ := hO.form
          obtain ⟨lk, hlk⟩ : ∃ lk, Hid ((lackP Q p).length = lk) := ⟨_, Lib.hid rfl⟩
          rw [hlk.out] at hO ⊢
          have hsz := hB.size
          have hf1 := hRf.block.free 1
          have hlk3 : lk ≤ 3 := by rw [← hlk.out]; have := lks_len Q p p.length; rw [lks_all] at this; have := HL.out; omega
          have hslt : ¬ (s : Int) ≤ (m : Int) := by omega
          clear hT4 hsl
          by_cases h40 : Q.length + lk ≤ 40
          · obtain ⟨e1, e2, e3⟩ := add_ok (n := m) (Q := Q) (p := p) ⟨HL.out, Hm.out⟩ (by rw [hlk.out]; exact h40)
            have H1 := Lib.hid e1
            have H2 := Lib.hid e2
            have H3 := Lib.hid e3
            have hgood : Hid (Good m (addQ m Q p)) := Lib.hid hRf.good.add
            have h40' : ¬ (40 : Int) < (Q.length : Int) + (lk : Int) := by omega
            have hll : Hid (Q.length + (lackP Q p).length ≤ 1000000) := Lib.hid (by rw [hlk.out]; omega)
            have hlo := World.ownsRow.lt hRf.row.choose_spec.1
            have hrr := hRf.row
            have hrb := hRf.block
            have HR := Lib.hid hRf
            have HB := Lib.hid hB
            have hOl := hO.low hbase
            clear e1 e2 e3 h40 hRf hPw hB hO
            go_wp2_with (at_builtin; refine wpList_appRs rfl _ _ rfl base _ Q rfl hrr _ (lackP Q p) rfl hOl hll.out (Nat.le_trans hbase hsz) ?_)
            intro v5 w5 hO5 hG5
            rw [← H1.out] at hO5
            have hnr : (Value.slice A2 Q.length cap).ownBlock ≠ some r := fun e => by
              obtain ⟨vs, h1, _⟩ := hrr
              rcases h1.2 with ⟨e1, _⟩ | ⟨g1, cap1, cur1, e1, _, hg1, _⟩
              · rw [e1] at e; cases e
              · rw [e1] at e
                simp only [Value.ownBlock, Option.some.injEq] at e
                subst e
                have hb : wr.heap[g1]? = some (.cells _ _ _) := hrb
                rw [hg1] at hb
                simp only [Option.some.injEq, Obj.cells.injEq] at hb
                exact absurd hb.2.1 (by decide)
            have hb5 := hrb.grown hG5.1 hnr
            obtain ⟨A5, c5, rfl, _⟩ := hO5.form
            obtain ⟨n5, hn5⟩ : ∃ n5, Hid ((addQ m Q p).length = n5) := ⟨_, Lib.hid rfl⟩
            rw [hn5.out] at hO5 hG5 ⊢
            have d1 : w5.cell? ⟨r, 1, none⟩ = some (.slice A2 Q.length cap) := hb5.cell 1
            have f1 := hb5.free 1
            have hb6 := hb5.set_ 1 (.slice A5 n5 c5)
            have hch6 : Chg (footR r (.slice A2 Q.length cap)) w (w5.setCell ⟨r, 1, none⟩ (.slice A5 n5 c5)) := ((Chg.of_below HB.out (Nat.le_refl _)).trans (S' := footR r (.slice A2 Q.length cap)) (Chg.of_grown hG5.1 (fun k hk _ => .inr hk)) (fun _ _ h => h)).set_ r 1 _ (fun _ => .inl rfl)
            have hO6 : OwnTs (w5.setCell ⟨r, 1, none⟩ (.slice A5 n5 c5)) base (.slice A5 n5 c5) (addQ m Q p) := hO5.chg (S := fun k => k = r) ((Chg.refl _ w5).set_ r 1 _ (fun _ => rfl)) (fun k hk cs e fr he => by
              subst hk
              have hb : w5.heap[k]? = some (.cells _ _ _) := hb5
              rw [he] at hb
              simp only [Option.some.injEq, Obj.cells.injEq] at hb
              rw [hb.2.1]
              decide)
            have hown6 : Hid (∀ k, (Value.slice A5 n5 c5).ownBlock = some k → (Value.slice A2 Q.length cap).ownBlock = some k ∨ w.heap.size ≤ k) := Lib.hid fun k hk => (hG5.2 k hk).imp id (fun h => Nat.le_trans hsz h)
            go_wp2_with fail
            generalize w5.setCell ⟨r, 1, none⟩ (.slice A5 n5 c5) = w6 at hb6 hch6 hO6 ⊢
            have hR6 : Rf w6 base r m (.slice A5 n5 c5) (addQ m Q p) := ⟨hb6, hO6, HR.out.rb, hgood.out⟩
            have hP6 : HasT w6 w.heap.size A m c p := HP.out.chg (Nat.le_refl _) hch6 Hfar.out
            have hs6 := hch6.size
            have K6 : Hid (∀ y, Below w6.heap.size w6 y → Rf y base r m (.slice A5 n5 c5) (addQ m Q p) ∧ HasT y w.heap.size A m c p) := Lib.hid fun y hy => ⟨hR6.below hy, hP6.below hy hs6⟩
            have Hch6 := Lib.hid hch6
            clear hb6 hO6 hR6 hP6 hO5 hG5 hb5 d1 f1 hrr hrb HR hOl hnr hf1 c1 hlo hch6
            go_wp2_with fail
            go_loopw [10, 11] (fun v i wr => ∃ t : Nat, 1 ≤ t ∧ t ≤ m + 1 ∧ i = .int .i64 t ∧ OwnI wr w6.heap.size v (((pres p).map fun q => ((fnd (addQ m Q p) q : Nat) : Int)).take (t - 1)) ∧ Below w6.heap.size w6 wr) (fun _ i _ => m + 1 - (intOf i).toNat)
            case atStart => exact ⟨1, Nat.le_refl _, by omega, rfl, OwnI.nil_ _ _, Below.refl _ _⟩
            case round =>
              obtain ⟨t, ht1, htm, rfl, hO, hB⟩ := hrel
              by_cases hlt2 : t ≤ m
              · obtain ⟨hRf, hPw⟩ := K6.out wr hB
                obtain ⟨x, hx⟩ : ∃ x, Hid (fnd (addQ m Q p) (p.take t) = x) := ⟨_, Lib.hid rfl⟩
                have hf := refFind_any hRf (hPw.take_ t hlt2) hx
                have h1 : (t : Int) ≤ (m : Int) := by omega
                have h2 : (t : Int) ≤ (c : Int) := by omega
                have h3 : (0 : Int) ≤ (t : Int) := by omega
                have htk : Hid (((pres p).map fun q => ((fnd (addQ m Q p) q : Nat) : Int)).take (t + 1 - 1) = ((pres p).map fun q => ((fnd (addQ m Q p) q : Nat) : Int)).take (t - 1) ++ [(x : Int)]) := Lib.hid (by
                  have e1 := pres_take (p := p) (k := t - 1) (by have := HL.out; omega)
                  rw [Nat.sub_add_cancel ht1] at e1
                  rw [Nat.add_sub_cancel, ← List.map_take, e1, List.map_append, List.map_take, ← hx.out]
                  rfl)
                have hsz2 := hB.size
                have hlo2 := fun k e => (hO.lt k e).1
                have hll2 : Hid ((((pres p).map fun q => ((fnd (addQ m Q p) q : Nat) : Int)).take (t - 1)).length ≤ 1000000) := Lib.hid (Nat.le_trans (List.length_take_le _ _) (by omega))
                clear hRf hPw
                go_wp2_with fail
                refine hf.mono ?_
                rintro y w7 ⟨rfl, j, rfl⟩
                have hO7 := (hO.drewN j).alloc (.cells #[.int .i64 (x : Int)] 3)
                go_wp2_with (at_builtin; refine wpList_appI rfl _ _ rfl w6.heap.size _ _ rfl hO7 _ rfl x (cell_lit _ _ _ _ (by simp)) hll2.out (by rw [World.size_alloc]; exact Nat.le_succ_of_le hsz2) ?_)
                intro v8 w8 hO8 hG8
                have hB8 := Lib.hid (((below_drewN hB j).alloc hsz2 (.cells #[.int .i64 (x : Int)] 3)).trans (hG8.below_ (by rw [World.size_alloc]; exact Nat.le_succ_of_le hsz2) hlo2))
                rw [← htk.out] at hO8
                have HO8 := Lib.hid hO8
                clear hO hO7 hO8 hG8 hB hlo2
                go_wp2_with fail
                go_roundw
                case rel => exact ⟨t + 1, by omega, by omega, by go_num, HO8.out, hB8.out⟩
                case measure => simp [intOf]; omega
              · have hall : Hid (((pres p).map fun q => ((fnd (addQ m Q p) q : Nat) : Int)).take (t - 1) = addC m Q p) := Lib.hid (by
                  rw [List.take_of_length_le (by rw [List.length_map, pres_len, HL.out]; omega), H2.out, H1.out])
                rw [hall.out] at hO
                have hF := Lib.hid (show OwnI wr w.heap.size _ (addC m Q p) ∧ Rf wr base r m (.slice A5 n5 c5) (addQ m Q p) ∧ Chg (footR r (.slice A2 Q.length cap)) w wr from ⟨hO.low hs6, (K6.out wr hB).1, Hch6.out.trans (S' := fun _ => False) (Chg.of_below hB (Nat.le_refl _)) (fun _ _ h => h.elim)⟩)
                clear hO hB
                go_wp2_with fail
                go_ret2
                exact ⟨_, _, by rw [H3.out]; rfl, hF.out.1, hF.out.2.1, hF.out.2.2, hown6.out⟩
          · obtain ⟨e1, e2, e3⟩ := add_full (n := m) (Q := Q) (p := p) ⟨HL.out, Hm.out⟩ (by rw [hlk.out]; omega)
            have H1 := Lib.hid e1
            have H2 := Lib.hid e2
            have H3 := Lib.hid e3
            have h40' : (40 : Int) < (Q.length : Int) + (lk : Int) := by omega
            have HR := Lib.hid hRf
            have HB := Lib.hid hB
            clear e1 e2 e3 h40 hO hRf hPw hB
            go_wp2_with fail
            go_ret2
            exact ⟨_, .slice A2 Q.length cap, by rw [H3.out]; rfl, by rw [H2.out]; exact OwnI.nil_ _ _, by rw [H1.out]; exact HR.out, Chg.of_below HB.out (Nat.le_refl _), fun k hk => .inl hk⟩
    · obtain ⟨e1, e2, e3⟩ := add_name (n := n) (Q := Q) (p := p) (fun a => hmn (by rw [← hpl]; exact a.1))
      have H1 := Lib.hid e1
      have H2 := Lib.hid e2
      have H3 := Lib.hid e3
      have hnn : ((m : Int) != (n : Int)) = true := by simp; omega
      have hD := Lib.hid h
      clear e1 e2 e3 h hmn hm
      go_enter Try.func22, Try.ntmps22
      go_wp2_with fail
      refine hmy.mono ?_
      rintro y w1 ⟨rfl, rfl⟩
      go_wp2_with fail
      go_ret2
      exact ⟨_, Lv, by rw [H3.out]; rfl, by rw [H2.out]; exact OwnI.nil_ _ _, by rw [H1.out]; exact hD.out, Chg.refl _ _, fun k hk => .inl hk⟩
  · rw [decide_eq_false hm] at hmy
    obtain ⟨e1, e2, e3⟩ := add_name (n := n) (Q := Q) (p := p) (fun a => hm a.2)
    have H1 := Lib.hid e1
    have H2 := Lib.hid e2
    have H3 := Lib.hid e3
    have hD := Lib.hid h
    clear e1 e2 e3 h hm
    go_enter Try.func22, Try.ntmps22
    go_wp2_with fail
    refine hmy.mono ?_
    rintro y w1 ⟨rfl, rfl⟩
    go_wp2_with fail
    go_ret2
    exact ⟨_, Lv, by rw [H3.out]; rfl, by rw [H2.out]; exact OwnI.nil_ _ _, by rw [H1.out]; exact hD.out, Chg.refl _ _, fun k hk => .inl hk⟩
end Go.Proofs.Ytccdjjpkcahgfaa
