/- Layer 7: the reference's Read. -/
import Derived.Test.YtccdjjpkcahgfaaDictB
import Derived.Test.YtccdjjpkcahgfaaDictX
import Derived.Test.YtccdjjpkcahgfaaDictH
import Derived.Test.YtccdjjpkcahgfaaWireRefRd
namespace Go.Proofs.Ytccdjjpkcahgfaa
open Go.RowKit

theorem due_ref {n : Nat} {Q : List Pth} (h : Good n Q) : dueP n Q ≠ 0 ↔ 0 < (pth Q Q.length).length ∧ (pth Q Q.length).length < n := by
  unfold dueP
  rcases Nat.eq_zero_or_pos Q.length with h0 | h0
  · have : Q = [] := List.eq_nil_of_length_eq_zero h0
    subst this
    simp [pth]
  · have h1 := (h.one _ (pth_mem h0 (Nat.le_refl _))).1
    split
    · rename_i h2
      exact ⟨fun _ => ⟨h1, h2⟩, fun _ => by omega⟩
    · rename_i h2
      exact ⟨fun e => (e rfl).elim, fun e => (h2 e.2).elim⟩
theorem due_is {n : Nat} {Q : List Pth} : dueP n Q = 0 ∨ dueP n Q = Q.length := by
  unfold dueP
  split
  · exact .inr rfl
  · exact .inl rfl
theorem Rf.other {w w' : World} {base r n : Nat} {Lv : Value} {Q : List Pth} (h : Rf w base r n Lv Q) {gx : Nat} {A : Option Addr} {m c : Nat} {l : List UInt8} {p e : Nat} (hR : Rd 40 w gx A m c l p e) (hg : w.grownBy w' (some gx)) (hx : gx < base) : Rf w' base r n Lv Q :=
  h.chg (S := fun k => k = gx) (Chg.of_grown hg fun k hk _ => (Option.some.inj hk).symm) (fun k hk cs e' fr he => by
    subst hk
    have hb : w.heap[k]? = some (.cells _ _ _) := hR.block
    rw [he] at hb
    simp only [Option.some.injEq, Obj.cells.injEq] at hb
    rw [hb.2.1]
    decide) (fun e' => by have := h.rb; omega)
def RefReadPost (n gx : Nat) (A : Option Addr) (m c : Nat) (l : List UInt8) (x : List Pth × Nat × Nat) (w : World) (y : Ending) (w' : World) : Prop :=
  y = .returned (.tuple #[.pointer (some ⟨w.heap.size, 0, none⟩), .bool (x.2.2 == 0)]) ∧ (x.2.2 = 0 → ∃ Lv, Rf w' w.heap.size w.heap.size n Lv x.1) ∧ Rd 40 w' gx A m c l x.2.1 x.2.2 ∧ Off gx w.heap.size w w'
theorem RefReadPost.err {n gx : Nat} {A : Option Addr} {m c : Nat} {l : List UInt8} {Q : List Pth} {p e : Nat} {w w' : World} (he : e ≠ 0) (hR : Rd 40 w' gx A m c l p e) (hB : Off gx w.heap.size w w') : RefReadPost n gx A m c l (Q, p, e) w (.returned (.tuple #[.pointer (some ⟨w.heap.size, 0, none⟩), .bool false])) w' :=
  ⟨by rw [show ((Q, p, e).2.2 == 0) = false by simpa using he], fun h => (he h).elim, hR, hB⟩
theorem RefReadPost.drewN {n gx : Nat} {A : Option Addr} {m c : Nat} {l : List UInt8} {x : List Pth × Nat × Nat} {w w' : World} {y : Ending} (h : RefReadPost n gx A m c l x w y w') (k : Nat) : RefReadPost n gx A m c l x w y (w'.drewN k) :=
  ⟨h.1, fun e => by obtain ⟨Lv, h2⟩ := h.2.1 e; exact ⟨Lv, h2.drewN k⟩, h.2.2.1.below (below_drewN (Below.refl _ _) k) h.2.2.1.lt, h.2.2.2.drewN k⟩
theorem rdD_early {n : Nat} {l : List UInt8} {p e a k1 e1 k : Nat} {Q : List Pth} {p2 e2 : Nat} (h1 : rdI l p e = ((a : Int), k1, e1)) (h2 : rdN n l ([], p + k1, e1) k = (Q, p2, e2)) (he : e2 ≠ 0) (hk : k ≤ a) : rdD n l p e = (Q, p2, e2) := by
  have h3 := rdN_stick (n := n) (l := l) (x := ([], p + k1, e1)) (i := k) (j := a) (by rw [h2]; exact he) hk
  rw [rdD_is h1 (h3.trans h2) rfl]
  simp only [he, if_false]
/-- Its row grows by a path. -/
theorem Rf.put_ {w w' : World} {base r n : Nat} {A2 : Option Addr} {L cap : Nat} {Q : List Pth} (h : Rf w base r n (.slice A2 L cap) Q) {v : Value} {q : Pth} (hO : OwnTs w' base v (Q ++ [q])) (hG : Grew w (.slice A2 L cap) w' v) (hgd : Good n (Q ++ [q])) :
    Block w' r 49 #[.int .i64 (n : Int), .slice A2 L cap] ∧ Rf (w'.setCell ⟨r, 1, none⟩ v) base r n v (Q ++ [q]) ∧ Below base w (w'.setCell ⟨r, 1, none⟩ v) := by
  have hrb := h.block
  have hnr : (Value.slice A2 L cap).ownBlock ≠ some r := fun e => by
    obtain ⟨vs, h1, _⟩ := h.row
    rcases h1.2 with ⟨e1, _⟩ | ⟨g1, cap1, cur1, e1, _, hg1, _⟩
    · rw [e1] at e; cases e
    · rw [e1] at e
      simp only [Value.ownBlock, Option.some.injEq] at e
      subst e
      have hb : w.heap[g1]? = some (.cells _ _ _) := hrb
      rw [hg1] at hb
      simp only [Option.some.injEq, Obj.cells.injEq] at hb
      exact absurd hb.2.1 (by decide)
  have hb5 := hrb.grown hG.1 hnr
  have hch : Chg (footR r (.slice A2 L cap)) w (w'.setCell ⟨r, 1, none⟩ v) := (Chg.of_grown hG.1 (fun k hk _ => .inr hk)).set_ r 1 _ (fun _ => .inl rfl)
  have hO6 : OwnTs (w'.setCell ⟨r, 1, none⟩ v) base v (Q ++ [q]) := hO.chg (S := fun k => k = r) ((Chg.refl _ w').set_ r 1 _ (fun _ => rfl)) (fun k hk cs e fr he => by
    subst hk
    have hb : w'.heap[k]? = some (.cells _ _ _) := hb5
    rw [he] at hb
    simp only [Option.some.injEq, Obj.cells.injEq] at hb
    rw [hb.2.1]
    decide)
  exact ⟨hb5, ⟨hb5.set_ 1 v, hO6, h.rb, hgd⟩, hch.below (Nat.le_trans h.rb (Nat.le_of_lt h.block.lt)) (fun k hk => (h.foot_base hk).1)⟩

set_option maxRecDepth 100000 in
set_option maxHeartbeats 4000000 in
theorem refRead_any {w : World} {n : Nat} (hn : 1 ≤ n ∧ n ≤ 3) {gr : Nat} {A : Option Addr} {m c : Nat} {l : List UInt8} {p e : Nat} (hR : Rd 40 w gr A m c l p e) :
    Calls Try.prog 16 #[.pointer (some ⟨gr, 0, none⟩), .int .i64 (n : Int)] w (RefReadPost n gr A m c l (rdD n l p e) w) := by
  obtain ⟨a, ha, hal⟩ := lk_nat l p e (hi := 40)
  obtain ⟨k, hk⟩ : ∃ k, Hid (rdI l p e = k) := ⟨_, Lib.hid rfl⟩
  obtain ⟨k0, k1, e1⟩ := k
  have hk' : lk l p e 0 40 = (k0, k1, e1) := hk.out
  have ha' : k0 = (a : Int) := by have h1 : (lk l p e 0 ((40 : Nat) : Int)).1 = (a : Int) := ha; rw [show ((40 : Nat) : Int) = 40 from rfl, hk'] at h1; exact h1
  subst ha'
  have hint := fun (W : World) (hW : Rd 40 W gr A m c l p e) => refInt_any W gr A m c l p e hW 0 40
  rw [hk'] at hint
  have Hint := Lib.hid hint
  have hgl := hR.lt
  have hb1 := below_a1 w (.cells #[.int .i64 (n : Int), .slice none 0 0] 49)
  have hRf1 : Rf (w.alloc (.cells #[.int .i64 (n : Int), .slice none 0 0] 49)) w.heap.size w.heap.size n (.slice none 0 0) [] := ⟨Block.new w 49 #[.int .i64 (n : Int), .slice none 0 0], OwnTs.nil_ _ _, Nat.le_refl _, good_nil hn⟩
  have hR1 := hR.below hb1 hgl
  have hB1 : Off gr w.heap.size w (w.alloc (.cells #[.int .i64 (n : Int), .slice none 0 0] 49)) := (Off.refl gr w.heap.size w).more hb1
  have hs1 := hb1.size
  obtain ⟨w1, hw1⟩ : ∃ w1, w1 = w.alloc (.cells #[.int .i64 (n : Int), .slice none 0 0] 49) := ⟨_, rfl⟩
  rw [← hw1] at hRf1 hR1 hB1 hs1
  have Hn := Lib.hid hn
  have hn1 : ¬ (n : Int) < 1 := by omega
  have hn3 : ¬ (3 : Int) < (n : Int) := by omega
  obtain ⟨X, hX⟩ : ∃ X, Hid (rdD n l p e = X) := ⟨_, Lib.hid rfl⟩
  rw [hX.out]
  clear hn hR ha hk' hint hb1
  go_enter Try.func16, Try.ntmps16
  go_wp2_with fail
  rw [← hw1]
  clear hw1
  refine (Hint.out w1 hR1).mono ?_
  rintro y w2 ⟨rfl, hR2, hG2⟩
  have hRf2 := hRf1.other hR1 hG2 hgl
  have hB2 : Off gr w.heap.size w w2 := hB1.grown hG2
  clear hR1 hRf1 hG2 hB1 hs1 Hint
  go_wp2_with fail
  go_loopw [8] (fun i wr => ∃ (k : Nat) (Lv : Value), k ≤ a ∧ i = .int .i64 k ∧ Rf wr w.heap.size w.heap.size n Lv (rdN n l ([], p + k1, e1) k).1 ∧ Rd 40 wr gr A m c l (rdN n l ([], p + k1, e1) k).2.1 (rdN n l ([], p + k1, e1) k).2.2 ∧ Off gr w.heap.size w wr) (fun i _ => a - (intOf i).toNat)
  case atStart => exact ⟨0, .slice none 0 0, Nat.zero_le _, rfl, hRf2, hR2, hB2⟩
  case round =>
    clear hRf2 hR2 hB2
    obtain ⟨k, Lv, hka, rfl, hRf, hRd, hB⟩ := hrel
    obtain ⟨Y, hY⟩ : ∃ Y, Hid (rdN n l ([], p + k1, e1) k = Y) := ⟨_, Lib.hid rfl⟩
    rw [hY.out] at hRf hRd
    obtain ⟨Q, p1, e0⟩ := Y
    simp only at hRf hRd
    have hQk : Hid (Q.length ≤ k) := Lib.hid (by have := (rdN_good (n := n) (l := l) (x := ([], p + k1, e1)) (good_nil Hn.out) rfl (i := k) (by omega)).2; rw [hY.out] at this; exact this)
    obtain ⟨A2, cap, rfl, _⟩ := hRf.row.form
    obtain ⟨L, hL⟩ : ∃ L, Hid (Q.length = L) := ⟨_, Lib.hid rfl⟩
    rw [hL.out] at hRf
    have c1 := hRf.c1
    have hrs := hB.size
    have Hg := Lib.hid hRf.good
    have hL40 : L ≤ 40 := by rw [← hL.out]; exact Hg.out.size
    by_cases hlt : k < a
    · obtain ⟨z, hz, hzl⟩ := lk_nat l p1 e0 (hi := L)
      obtain ⟨u, hu⟩ : ∃ u, Hid (lk l p1 e0 0 (L : Int) = u) := ⟨_, Lib.hid rfl⟩
      have hint := refInt_any wr gr A m c l p1 e0 hRd 0 (L : Int)
      rw [hu.out] at hint hz
      obtain ⟨u0, u1, e4⟩ := u
      simp only at hz hint
      subst hz
      obtain ⟨t, ht⟩ : ∃ t, Hid (tx l (p1 + u1) e4 12 = t) := ⟨_, Lib.hid rfl⟩
      obtain ⟨s, p2, e2⟩ := t
      have hsl : Hid (s.length ≤ 12) := Lib.hid (by have := tx_len l (p1 + u1) e4; rw [ht.out] at this; exact this)
      have htx := Lib.hid (fun (W : World) (hW : Rd 40 W gr A m c l (p1 + u1) e4) => refText_any W gr A m c l (p1 + u1) e4 hW 12)
      rw [ht.out] at htx
      have hstep : Hid (rdN n l ([], p + k1, e1) (k + 1) = if mayC n Q z s then (Q ++ [pth Q z ++ [s]], p2, e2) else (Q, p2, if e2 = 0 then 2 else e2)) := Lib.hid (by
        show rdS n l (rdN n l _ k) = _
        rw [hY.out]
        exact rdS_is (by rw [hL.out]; exact hu.out) ht.out)
      have hname : Hid (nameP s → e2 = 0) := Lib.hid (by have := tx_name (l := l) (p := p1 + u1) (e := e4) (hi := 12); rw [ht.out] at this; exact this)
      have HRf := Lib.hid hRf
      have HRd := Lib.hid hRd
      clear hRf hRd
      go_wp2_with fail
      refine hint.mono ?_
      rintro y w3 ⟨rfl, hR3, hG3⟩
      have hRf3 := HRf.out.other HRd.out hG3 hgl
      have hB3 : Off gr w.heap.size w w3 := hB.grown hG3
      have hs3 := hG3.size
      have Hrf3 := Lib.hid hRf3
      have Hr3 := Lib.hid hR3
      clear hint hG3 hB c1 hRf3
      go_wp2_with fail
      refine (htx.out w3 hR3).mono ?_
      rintro y w4 ⟨rfl, hR4, hG4⟩
      have hRf4 := Hrf3.out.other Hr3.out hG4 hgl
      have hB4 : Off gr w.heap.size w w4 := hB3.grown hG4
      have hs4 := hG4.size
      have c2 := hR4.c2
      simp only at c2 hR4
      clear hR3 hB3 hG4
      by_cases he : e2 = 0
      · subst he
        have c2' : w4.cell? ⟨gr, 2, none⟩ = some (.int .i64 0) := c2
        obtain ⟨q, hq⟩ : ∃ q, Hid (pth Q z = q) := ⟨_, Lib.hid rfl⟩
        have hzQ : z ≤ Q.length := by rw [hL.out]; exact hzl
        have hpath := refPath_any hRf4 z hzQ hq
        have hq3 : Hid (q.length ≤ 3) := Lib.hid (by
          rw [← hq.out]
          rcases Nat.eq_zero_or_pos z with h0 | h0
          · subst h0; simp [pth]
          · have h1 := (Hg.out.one _ (pth_mem h0 hzQ)).2
            have h2 := Hn.out.2
            omega)
        have HRf4 := Lib.hid hRf4
        have HR4 := Lib.hid hR4
        have hg4 : w.heap.size ≤ w4.heap.size := by omega
        clear hRf4 hR4 c2 hzQ
        go_wp2_with fail
        refine hpath.mono ?_
        rintro y w5 ⟨⟨A3, n3, c3, rfl, hT3⟩, rfl⟩
        have hn3' : n3 ≤ 3 := by rw [← hT3.len]; exact hq3.out
        clear hpath
        go_wp2_with (at_builtin; refine wpList_appTs rfl _ _ rfl w4.heap.size _ [] rfl (OwnT.nil_ _ _) _ A3 n3 c3 _ rfl hT3 (by simp; omega) (Nat.le_refl _) ?_)
        intro v5 w5 hO5 hG5
        have hB5 : Below w4.heap.size w4 w5 := ⟨hG5.1.os, hG5.1.tape, hG5.1.output, hG5.1.size, fun k hk => hG5.1.block k hk (by simp [Value.ownBlock])⟩
        have hO5' := hO5.alloc (.cells #[.string ⟨s.toArray⟩] 9)
        have hl5 : Hid (([] ++ q).length ≤ 1000000) := Lib.hid (by have := hq3.out; simp; omega)
        have hs5 := hB5.size
        have hlo5 : Hid (∀ k, v5.ownBlock = some k → w4.heap.size ≤ k) := Lib.hid fun k hk => by
          rcases hG5.2 k hk with h | h
          · simp [Value.ownBlock] at h
          · exact h
        have hB5' := Lib.hid (hB5.alloc hs5 (.cells #[.string ⟨s.toArray⟩] 9))
        clear hO5 hG5 hB5 hT3
        go_wp2_with (at_builtin; refine wpList_appT rfl _ _ rfl w4.heap.size _ _ rfl hO5' _ rfl s (cell_litT _ _ _ _ (by simp)) hl5.out (by rw [World.size_alloc]; omega) ?_)
        intro v6 w6 hO6 hG6
        have hB6 : Below w4.heap.size w4 w6 := hB5'.out.trans (hG6.below_ (by rw [World.size_alloc]; omega) hlo5.out)
        obtain ⟨A6, n6, k6, rfl, hT6, _⟩ := hO6.formN
        have hn6 : Hid (n6 = q.length + 1) := Lib.hid (by rw [← hT6.len]; simp)
        have HRf6 := Lib.hid (HRf4.out.below hB6)
        have HR6 := Lib.hid (HR4.out.below hB6 (by omega))
        have hB7 : Off gr w.heap.size w w6 := hB4.more (hB6.mono hg4)
        have hs6 : w.heap.size ≤ w6.heap.size := by have := hB6.size; omega
        have hO6' := Lib.hid (hO6.low hg4)
        have HT6 := Lib.hid hT6
        clear hG6 hB6 hO5' hO6 hT6 hB4 hlo5 hB5'
        by_cases hnm : nameP s
        · have hnmc := refName_yes hnm
          have Hnm := Lib.hid hnm
          clear hnm
          go_wp2_with fail
          refine (hnmc w6).mono ?_
          rintro y w7 ⟨rfl, rfl⟩
          clear hnmc
          obtain ⟨q5, hq5⟩ : ∃ q5, Hid (pth Q Q.length = q5) := ⟨_, Lib.hid rfl⟩
          have hpath5 := refPath_any HRf6.out Q.length (Nat.le_refl _) hq5
          rw [hL.out] at hpath5
          have c6 := HRf6.out.c1
          go_wp2_with fail
          refine hpath5.mono ?_
          rintro y w7 ⟨⟨A7, n7, c7, rfl, hT7⟩, rfl⟩
          have hn7 : Hid (q5.length = n7) := Lib.hid hT7.len
          have hdue : Hid (dueP n Q ≠ 0 ↔ 0 < n7 ∧ n7 < n) := Lib.hid (by have := due_ref Hg.out; rw [hq5.out, hn7.out] at this; exact this)
          clear hT7 hpath5
          by_cases h1 : n < n6
          · have hbad : Hid (¬ mayC n Q z s) := Lib.hid fun h => by have := h.2.1; rw [hq.out] at this; have := hn6.out; omega
            have h1' : (n : Int) < (n6 : Int) := by omega
            go_wp2_with fail
            have HR7 := Lib.hid ((And.intro HR6.out hB7).1)
            have hB8 := (And.intro HR6.out hB7).2
            refine (refBad_any _ gr A m c l p2 0 HR7.out).mono ?_
            rintro y w8 ⟨rfl, hR8, hG8⟩
            have hXe : Hid (X = (Q, p2, 2)) := Lib.hid (by
              rw [← hX.out]
              refine rdD_early hk.out (k := k + 1) ?_ (by decide) (by omega)
              rw [hstep.out, if_neg hbad.out]
              rfl)
            have hF := Lib.hid (RefReadPost.err (n := n) (Q := Q) (e := 2) (by decide) hR8 (hB8.grown hG8))
            clear hR8 hG8 hB8
            go_wp2_with fail
            go_ret2
            rw [hXe.out]
            exact hF.out
          · have h1' : ¬ (n : Int) < (n6 : Int) := by omega
            obtain ⟨x, hx⟩ : ∃ x, Hid (fnd Q (q ++ [s]) = x) := ⟨_, Lib.hid rfl⟩
            have hfind := refFind_any HRf6.out HT6.out hx
            by_cases h2 : x = 0
            · subst h2
              have hnin : Hid (q ++ [s] ∉ Q) := Lib.hid (fnd_zero.1 hx.out)
              have H1 := Lib.hid h1
              by_cases h3 : 0 < n7
              · have h3' : (0 : Int) < (n7 : Int) := by omega
                by_cases h4 : n7 < n
                · have h4' : (n7 : Int) < (n : Int) := by omega
                  by_cases h5 : z = L
                  · have h5' : ((z : Int) != (L : Int)) = false := by simp [h5]
                    have hok : Hid (mayC n Q z s) := Lib.hid ⟨Hnm.out, by rw [hq.out]; have := hn6.out; have := H1.out; omega, by rw [hq.out]; exact hnin.out, by rw [h5, ← hL.out]; exact due_is⟩
                    clear h5
                    go_wp2_with fail
                    refine hfind.mono ?_
                    rintro y w7 ⟨rfl, j, rfl⟩
                    clear hfind
                    have HR7 := Lib.hid (HR6.out.below (below_drewN (Below.refl _ _) j) HR6.out.lt)
                    have HRf7 := Lib.hid ((HRf6.out.drewN j).below (below_a1 (w6.drewN j) (.cells #[.slice A6 n6 k6] 30)))
                    have hO7 : Hid (OwnT ((w6.drewN j).alloc (.cells #[.slice A6 n6 k6] 30)) w.heap.size (.slice A6 n6 k6) (q ++ [s])) := Lib.hid ((hO6'.out.drewN j).alloc _)
                    have hB8 := Lib.hid ((hB7.drewN j).more ((below_a1 (w6.drewN j) (.cells #[.slice A6 n6 k6] 30)).mono hs6))
                    have c7' := (HRf6.out.drewN j).c1
                    have hll : Hid (Q.length ≤ 1000000) := Lib.hid (by rw [hL.out]; omega)
                    have hgd : Hid (Good n (Q ++ [q ++ [s]])) := Lib.hid (by rw [← hq.out]; exact Hg.out.mayC_come (by rw [hL.out]; exact hzl) hok.out (by have := hQk.out; omega))
                    clear hB7
                    go_wp2_with (at_builtin; refine wpList_appR rfl _ _ rfl w.heap.size _ _ rfl HRf7.out.row _ rfl (.slice A6 n6 k6) (q ++ [s]) (cell_litT _ _ _ _ (by simp)) hO7.out hll.out (by rw [World.size_alloc]; exact Nat.le_succ_of_le hs6) ?_)
                    intro v8 w8 hO8 hG8
                    obtain ⟨A8, c8, rfl, _⟩ := hO8.form
                    obtain ⟨n8, hn8⟩ : ∃ n8, Hid ((Q ++ [q ++ [s]]).length = n8) := ⟨_, Lib.hid rfl⟩
                    rw [hn8.out] at hO8 hG8 ⊢
                    obtain ⟨hb8, hRf9, hB9⟩ := HRf7.out.put_ hO8 hG8 hgd.out
                    have d1 : w8.cell? ⟨w.heap.size, 1, none⟩ = some (.slice A2 L cap) := hb8.cell 1
                    have f1 := hb8.free 1
                    clear hb8
                    have hstep2 : Hid (rdN n l ([], p + k1, e1) (k + 1) = (Q ++ [q ++ [s]], p2, 0)) := Lib.hid (by rw [hstep.out, if_pos hok.out, hq.out])
                    have hF := Lib.hid (And.intro hRf9 (And.intro ((HR7.out.below (below_a1 (w6.drewN j) _) HR7.out.lt).below hB9 hgl) (hB8.out.more hB9)))
                    clear hO8 hG8 hRf9 hB9
                    go_wp2_with fail
                    go_roundw
                    case rel => exact ⟨k + 1, .slice A8 n8 c8, by omega, by go_num, by rw [hstep2.out]; exact hF.out.1, by rw [hstep2.out]; exact hF.out.2.1, hF.out.2.2⟩
                    case measure => simp [intOf]; omega
                  · have h5' : ((z : Int) != (L : Int)) = true := by simp; omega
                    have hbad : Hid (¬ mayC n Q z s) := Lib.hid fun h => by
                      have h6 := hdue.out.2 ⟨h3, h4⟩
                      have h7 := h.2.2.2
                      have h8 := due_is (n := n) (Q := Q)
                      have h9 := hL.out
                      omega
                    go_wp2_with fail
                    refine hfind.mono ?_
                    rintro y w7 ⟨rfl, j, rfl⟩
                    clear hfind
                    go_wp2_with fail
                    have HR7 := Lib.hid ((And.intro (HR6.out.below (below_drewN (Below.refl _ _) j) HR6.out.lt) (hB7.drewN j)).1)
                    have hB8 := (And.intro (HR6.out.below (below_drewN (Below.refl _ _) j) HR6.out.lt) (hB7.drewN j)).2
                    refine (refBad_any _ gr A m c l p2 0 HR7.out).mono ?_
                    rintro y w8 ⟨rfl, hR8, hG8⟩
                    have hXe : Hid (X = (Q, p2, 2)) := Lib.hid (by
                      rw [← hX.out]
                      refine rdD_early hk.out (k := k + 1) ?_ (by decide) (by omega)
                      rw [hstep.out, if_neg hbad.out]
                      rfl)
                    have hF := Lib.hid (RefReadPost.err (n := n) (Q := Q) (e := 2) (by decide) hR8 (hB8.grown hG8))
                    clear hR8 hG8 hB8
                    go_wp2_with fail
                    go_ret2
                    rw [hXe.out]
                    exact hF.out
                · have h4' : ¬ (n7 : Int) < (n : Int) := by omega
                  have hok : Hid (mayC n Q z s) := Lib.hid ⟨Hnm.out, by rw [hq.out]; have := hn6.out; have := H1.out; omega, by rw [hq.out]; exact hnin.out, .inl (Nat.eq_zero_of_not_pos fun h => h4 (hdue.out.1 (Nat.ne_of_gt h)).2)⟩
                  go_wp2_with fail
                  refine hfind.mono ?_
                  rintro y w7 ⟨rfl, j, rfl⟩
                  clear hfind
                  have HR7 := Lib.hid (HR6.out.below (below_drewN (Below.refl _ _) j) HR6.out.lt)
                  have HRf7 := Lib.hid ((HRf6.out.drewN j).below (below_a1 (w6.drewN j) (.cells #[.slice A6 n6 k6] 30)))
                  have hO7 : Hid (OwnT ((w6.drewN j).alloc (.cells #[.slice A6 n6 k6] 30)) w.heap.size (.slice A6 n6 k6) (q ++ [s])) := Lib.hid ((hO6'.out.drewN j).alloc _)
                  have hB8 := Lib.hid ((hB7.drewN j).more ((below_a1 (w6.drewN j) (.cells #[.slice A6 n6 k6] 30)).mono hs6))
                  have c7' := (HRf6.out.drewN j).c1
                  have hll : Hid (Q.length ≤ 1000000) := Lib.hid (by rw [hL.out]; omega)
                  have hgd : Hid (Good n (Q ++ [q ++ [s]])) := Lib.hid (by rw [← hq.out]; exact Hg.out.mayC_come (by rw [hL.out]; exact hzl) hok.out (by have := hQk.out; omega))
                  clear hB7
                  go_wp2_with (at_builtin; refine wpList_appR rfl _ _ rfl w.heap.size _ _ rfl HRf7.out.row _ rfl (.slice A6 n6 k6) (q ++ [s]) (cell_litT _ _ _ _ (by simp)) hO7.out hll.out (by rw [World.size_alloc]; exact Nat.le_succ_of_le hs6) ?_)
                  intro v8 w8 hO8 hG8
                  obtain ⟨A8, c8, rfl, _⟩ := hO8.form
                  obtain ⟨n8, hn8⟩ : ∃ n8, Hid ((Q ++ [q ++ [s]]).length = n8) := ⟨_, Lib.hid rfl⟩
                  rw [hn8.out] at hO8 hG8 ⊢
                  obtain ⟨hb8, hRf9, hB9⟩ := HRf7.out.put_ hO8 hG8 hgd.out
                  have d1 : w8.cell? ⟨w.heap.size, 1, none⟩ = some (.slice A2 L cap) := hb8.cell 1
                  have f1 := hb8.free 1
                  clear hb8
                  have hstep2 : Hid (rdN n l ([], p + k1, e1) (k + 1) = (Q ++ [q ++ [s]], p2, 0)) := Lib.hid (by rw [hstep.out, if_pos hok.out, hq.out])
                  have hF := Lib.hid (And.intro hRf9 (And.intro ((HR7.out.below (below_a1 (w6.drewN j) _) HR7.out.lt).below hB9 hgl) (hB8.out.more hB9)))
                  clear hO8 hG8 hRf9 hB9
                  go_wp2_with fail
                  go_roundw
                  case rel => exact ⟨k + 1, .slice A8 n8 c8, by omega, by go_num, by rw [hstep2.out]; exact hF.out.1, by rw [hstep2.out]; exact hF.out.2.1, hF.out.2.2⟩
                  case measure => simp [intOf]; omega
              · obtain rfl : n7 = 0 := by omega
                have hok : Hid (mayC n Q z s) := Lib.hid ⟨Hnm.out, by rw [hq.out]; have := hn6.out; have := H1.out; omega, by rw [hq.out]; exact hnin.out, .inl (Nat.eq_zero_of_not_pos fun h => h3 (hdue.out.1 (Nat.ne_of_gt h)).1)⟩
                go_wp2_with fail
                refine hfind.mono ?_
                rintro y w7 ⟨rfl, j, rfl⟩
                clear hfind
                have HR7 := Lib.hid (HR6.out.below (below_drewN (Below.refl _ _) j) HR6.out.lt)
                have HRf7 := Lib.hid ((HRf6.out.drewN j).below (below_a1 (w6.drewN j) (.cells #[.slice A6 n6 k6] 30)))
                have hO7 : Hid (OwnT ((w6.drewN j).alloc (.cells #[.slice A6 n6 k6] 30)) w.heap.size (.slice A6 n6 k6) (q ++ [s])) := Lib.hid ((hO6'.out.drewN j).alloc _)
                have hB8 := Lib.hid ((hB7.drewN j).more ((below_a1 (w6.drewN j) (.cells #[.slice A6 n6 k6] 30)).mono hs6))
                have c7' := (HRf6.out.drewN j).c1
                have hll : Hid (Q.length ≤ 1000000) := Lib.hid (by rw [hL.out]; omega)
                have hgd : Hid (Good n (Q ++ [q ++ [s]])) := Lib.hid (by rw [← hq.out]; exact Hg.out.mayC_come (by rw [hL.out]; exact hzl) hok.out (by have := hQk.out; omega))
                clear hB7
                go_wp2_with (at_builtin; refine wpList_appR rfl _ _ rfl w.heap.size _ _ rfl HRf7.out.row _ rfl (.slice A6 n6 k6) (q ++ [s]) (cell_litT _ _ _ _ (by simp)) hO7.out hll.out (by rw [World.size_alloc]; exact Nat.le_succ_of_le hs6) ?_)
                intro v8 w8 hO8 hG8
                obtain ⟨A8, c8, rfl, _⟩ := hO8.form
                obtain ⟨n8, hn8⟩ : ∃ n8, Hid ((Q ++ [q ++ [s]]).length = n8) := ⟨_, Lib.hid rfl⟩
                rw [hn8.out] at hO8 hG8 ⊢
                obtain ⟨hb8, hRf9, hB9⟩ := HRf7.out.put_ hO8 hG8 hgd.out
                have d1 : w8.cell? ⟨w.heap.size, 1, none⟩ = some (.slice A2 L cap) := hb8.cell 1
                have f1 := hb8.free 1
                clear hb8
                have hstep2 : Hid (rdN n l ([], p + k1, e1) (k + 1) = (Q ++ [q ++ [s]], p2, 0)) := Lib.hid (by rw [hstep.out, if_pos hok.out, hq.out])
                have hF := Lib.hid (And.intro hRf9 (And.intro ((HR7.out.below (below_a1 (w6.drewN j) _) HR7.out.lt).below hB9 hgl) (hB8.out.more hB9)))
                clear hO8 hG8 hRf9 hB9
                go_wp2_with fail
                go_roundw
                case rel => exact ⟨k + 1, .slice A8 n8 c8, by omega, by go_num, by rw [hstep2.out]; exact hF.out.1, by rw [hstep2.out]; exact hF.out.2.1, hF.out.2.2⟩
                case measure => simp [intOf]; omega
            · have h2' : ((x : Int) != 0) = true := by simp; omega
              have hbad : Hid (¬ mayC n Q z s) := Lib.hid fun h => by have h3 := h.2.2.1; rw [hq.out] at h3; exact h2 (by rw [← hx.out]; exact fnd_zero.2 h3)
              go_wp2_with fail
              refine hfind.mono ?_
              rintro y w7 ⟨rfl, j, rfl⟩
              clear hfind
              go_wp2_with fail
              have HR7 := Lib.hid ((And.intro (HR6.out.below (below_drewN (Below.refl _ _) j) HR6.out.lt) (hB7.drewN j)).1)
              have hB8 := (And.intro (HR6.out.below (below_drewN (Below.refl _ _) j) HR6.out.lt) (hB7.drewN j)).2
              refine (refBad_any _ gr A m c l p2 0 HR7.out).mono ?_
              rintro y w8 ⟨rfl, hR8, hG8⟩
              have hXe : Hid (X = (Q, p2, 2)) := Lib.hid (by
                rw [← hX.out]
                refine rdD_early hk.out (k := k + 1) ?_ (by decide) (by omega)
                rw [hstep.out, if_neg hbad.out]
                rfl)
              have hF := Lib.hid (RefReadPost.err (n := n) (Q := Q) (e := 2) (by decide) hR8 (hB8.grown hG8))
              clear hR8 hG8 hB8
              go_wp2_with fail
              go_ret2
              rw [hXe.out]
              exact hF.out
        · have hnmc := refName_no hnm
          have hbad : Hid (¬ mayC n Q z s) := Lib.hid fun h => hnm h.1
          clear hnm
          go_wp2_with fail
          refine (hnmc w6).mono ?_
          rintro y w7 ⟨rfl, rfl⟩
          clear hnmc
          obtain ⟨q5, hq5⟩ : ∃ q5, Hid (pth Q Q.length = q5) := ⟨_, Lib.hid rfl⟩
          have hpath5 := refPath_any HRf6.out Q.length (Nat.le_refl _) hq5
          rw [hL.out] at hpath5
          have c6 := HRf6.out.c1
          go_wp2_with fail
          refine hpath5.mono ?_
          rintro y w7 ⟨⟨A7, n7, c7, rfl, _⟩, rfl⟩
          clear hpath5
          go_wp2_with fail
          have HR7 := Lib.hid ((And.intro HR6.out hB7).1)
          have hB8 := (And.intro HR6.out hB7).2
          refine (refBad_any _ gr A m c l p2 0 HR7.out).mono ?_
          rintro y w8 ⟨rfl, hR8, hG8⟩
          have hXe : Hid (X = (Q, p2, 2)) := Lib.hid (by
            rw [← hX.out]
            refine rdD_early hk.out (k := k + 1) ?_ (by decide) (by omega)
            rw [hstep.out, if_neg hbad.out]
            rfl)
          have hF := Lib.hid (RefReadPost.err (n := n) (Q := Q) (e := 2) (by decide) hR8 (hB8.grown hG8))
          clear hR8 hG8 hB8
          go_wp2_with fail
          go_ret2
          rw [hXe.out]
          exact hF.out
      · have hne : ((e2 : Int) != 0) = true := by simpa using he
        have hXe : Hid (X = (Q, p2, e2)) := Lib.hid (by
          rw [← hX.out]
          refine rdD_early hk.out (k := k + 1) ?_ he (by omega)
          rw [hstep.out, if_neg (fun h => he (hname.out h.1)), if_neg he])
        have hF := Lib.hid (RefReadPost.err (n := n) (Q := Q) he hR4 hB4)
        clear hR4 hB4 hRf4 he
        go_wp2_with fail
        go_ret2
        rw [hXe.out]
        exact hF.out
    · have hka' : k = a := by omega
      obtain ⟨q5, hq5⟩ : ∃ q5, Hid (pth Q Q.length = q5) := ⟨_, Lib.hid rfl⟩
      have hpath5 := refPath_any hRf Q.length (Nat.le_refl _) hq5
      rw [hL.out] at hpath5
      obtain ⟨d, hd⟩ : ∃ d, Hid (dueP n Q = d) := ⟨_, Lib.hid rfl⟩
      have hXe : Hid (X = (Q, p1, if e0 = 0 then (if d = 0 then 0 else 2) else e0)) := Lib.hid (by rw [← hX.out]; exact rdD_is hk.out (by rw [← hka']; exact hY.out) hd.out)
      have HRf := Lib.hid hRf
      have HRd := Lib.hid hRd
      clear hRf hRd hka'
      go_wp2_with fail
      refine hpath5.mono ?_
      rintro y w7 ⟨⟨A7, n7, c7, rfl, hT7⟩, rfl⟩
      have hn7 : Hid (q5.length = n7) := Lib.hid hT7.len
      have hdue : Hid (dueP n Q ≠ 0 ↔ 0 < n7 ∧ n7 < n) := Lib.hid (by have := due_ref Hg.out; rw [hq5.out, hn7.out] at this; exact this)
      clear hT7 hpath5
      by_cases h3 : 0 < n7
      · have h3' : (0 : Int) < (n7 : Int) := by omega
        by_cases h4 : n7 < n
        · have h4' : (n7 : Int) < (n : Int) := by omega
          have hd0 : d ≠ 0 := by rw [← hd.out]; exact hdue.out.2 ⟨h3, h4⟩
          obtain ⟨e3, he3⟩ : ∃ e3, Hid ((if e0 = 0 then 2 else e0) = e3) := ⟨_, Lib.hid rfl⟩
          have hne : e3 ≠ 0 := by rw [← he3.out]; split <;> omega
          have hXe2 : Hid (X = (Q, p1, e3)) := Lib.hid (by rw [hXe.out, if_neg hd0, he3.out])
          have hbadr := refBad_any wr gr A m c l p1 e0 HRd.out
          rw [he3.out] at hbadr
          have he1 : ((e3 : Int) == 0) = false := by simpa using hne
          have Hne := Lib.hid hne
          clear hd0 hne
          go_wp2_with fail
          refine hbadr.mono ?_
          rintro y w8 ⟨rfl, hR8, hG8⟩
          have c28 := hR8.c2
          have hF := Lib.hid (RefReadPost.err (n := n) (Q := Q) Hne.out hR8 (hB.grown hG8))
          clear hbadr hR8 hG8 hB
          go_wp2_with fail
          go_quiet (fail)
          go_wp2
          go_ret2
          rw [hXe2.out]
          exact hF.out.drewN _
        · have h4' : ¬ (n7 : Int) < (n : Int) := by omega
          have hd0 : d = 0 := by rw [← hd.out]; exact Nat.eq_zero_of_not_pos fun h => h4 (hdue.out.1 (Nat.ne_of_gt h)).2
          have hXe2 : Hid (X = (Q, p1, e0)) := Lib.hid (by rw [hXe.out, if_pos hd0]; split <;> simp_all)
          have c28 := HRd.out.c2
          have hF := Lib.hid (show RefReadPost n gr A m c l (Q, p1, e0) w (.returned (.tuple #[.pointer (some ⟨w.heap.size, 0, none⟩), .bool (e0 == 0)])) wr from ⟨rfl, fun _ => ⟨_, HRf.out⟩, HRd.out, hB⟩)
          clear hB
          by_cases he : e0 = 0
          · subst he
            have c28' : wr.cell? ⟨gr, 2, none⟩ = some (.int .i64 0) := c28
            go_wp2_with fail
            go_quiet (fail)
            go_wp2
            go_ret2
            rw [hXe2.out]
            exact hF.out.drewN _
          · have he1 : ((e0 : Int) == 0) = false := by simpa using he
            have he2 : (e0 == 0) = false := by simpa using he
            rw [he2] at hF
            clear he he2
            go_wp2_with fail
            go_quiet (fail)
            go_wp2
            go_ret2
            rw [hXe2.out]
            exact hF.out.drewN _
      · obtain rfl : n7 = 0 := by omega
        have hd0 : d = 0 := by rw [← hd.out]; exact Nat.eq_zero_of_not_pos fun h => h3 (hdue.out.1 (Nat.ne_of_gt h)).1
        have hXe2 : Hid (X = (Q, p1, e0)) := Lib.hid (by rw [hXe.out, if_pos hd0]; split <;> simp_all)
        have c28 := HRd.out.c2
        have hF := Lib.hid (show RefReadPost n gr A m c l (Q, p1, e0) w (.returned (.tuple #[.pointer (some ⟨w.heap.size, 0, none⟩), .bool (e0 == 0)])) wr from ⟨rfl, fun _ => ⟨_, HRf.out⟩, HRd.out, hB⟩)
        clear hB
        by_cases he : e0 = 0
        · subst he
          have c28' : wr.cell? ⟨gr, 2, none⟩ = some (.int .i64 0) := c28
          go_wp2_with fail
          go_quiet (fail)
          go_wp2
          go_ret2
          rw [hXe2.out]
          exact hF.out.drewN _
        · have he1 : ((e0 : Int) == 0) = false := by simpa using he
          have he2 : (e0 == 0) = false := by simpa using he
          rw [he2] at hF
          clear he he2
          go_wp2_with fail
          go_quiet (fail)
          go_wp2
          go_ret2
          rw [hXe2.out]
          exact hF.out.drewN _
theorem refRead_no {w : World} {n : Int} (hn : ¬ (1 ≤ n ∧ n ≤ 3)) {gr : Nat} :
    Calls Try.prog 16 #[.pointer (some ⟨gr, 0, none⟩), .int .i64 n] w fun y w' => (∃ r, y = .returned (.tuple #[.pointer (some ⟨r, 0, none⟩), .bool false])) ∧ Below w.heap.size w w' := by
  have hb1 := below_a1 w (.cells #[.int .i64 n, .slice none 0 0] 49)
  by_cases h1 : n < 1
  · clear hn
    go_enter Try.func16, Try.ntmps16
    go_wp2_with fail
    go_ret2
    exact ⟨⟨_, rfl⟩, hb1⟩
  · have h2 : 3 < n := by omega
    clear hn
    go_enter Try.func16, Try.ntmps16
    go_wp2_with fail
    go_ret2
    exact ⟨⟨_, rfl⟩, hb1⟩
end Go.Proofs.Ytccdjjpkcahgfaa
