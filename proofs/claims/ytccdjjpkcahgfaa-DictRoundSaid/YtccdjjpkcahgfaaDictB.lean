/- Layer 7: readPath, Read. -/
import Derived.Test.YtccdjjpkcahgfaaDictE
import Derived.Test.YtccdjjpkcahgfaaDictF
import Derived.Test.YtccdjjpkcahgfaaDictC
namespace Go.Proofs.Ytccdjjpkcahgfaa
open Go.RowKit

theorem Rd.below {T : TypeId} {w w' : World} {g : Nat} {A : Option Addr} {n c : Nat} {l : List UInt8} {p e C : Nat} (h : Rd T w g A n c l p e) (hb : Below C w w') (hg : g < C) : Rd T w' g A n c l p e :=
  ⟨h.block.below hb hg, h.has.below hb (Nat.le_of_lt hg), h.at_le, h.err_le⟩
/-- A call that writes one block below leaves the dictionary. -/
theorem Dc.other {w w' : World} {base g : Nat} {pv : Value} {bm n : Nat} {Q : List Pth} (h : Dc w base g pv bm n Q) {b : Nat} (hg : w.grownBy w' (some b)) (hb : b < base) : Dc w' base g pv bm n Q :=
  h.chg (S := fun k => k = b) (Chg.of_grown hg fun k hk _ => (Option.some.inj hk).symm) fun k hk hs => by have := (h.foot_base hk).1; omega
theorem below_grown {w w' : World} {b : Nat} (h : w.grownBy w' (some b)) (hb : b ≤ w.heap.size) : Below b w w' := ⟨h.os, h.tape, h.output, h.size, fun k hk => h.block k (by omega) fun e => by injection e with e; omega⟩

/-- Only the one block, and what is not older than base, changes. -/
def Off (gr base : Nat) (w w' : World) : Prop := Chg (fun k => k = gr ∨ base ≤ k) w w'
section
variable {gr base : Nat} {w a b : World}
theorem Off.refl (gr base : Nat) (w : World) : Off gr base w w := Chg.refl _ _
theorem Off.grown (h : Off gr base w a) (hg : a.grownBy b (some gr)) : Off gr base w b := Chg.trans h (Chg.of_grown (S := fun k => k = gr) hg fun _ hk _ => (Option.some.inj hk).symm) fun _ _ e => .inl e
theorem Off.more (h : Off gr base w a) (hb : Below base a b) : Off gr base w b := Chg.trans h (S' := fun k => base ≤ k) ⟨hb.os, hb.tape, hb.output, hb.size, fun k _ hk => hb.block k (by omega)⟩ fun _ _ e => .inr e
theorem Off.trans (h : Off gr base w a) (h' : Off gr base a b) : Off gr base w b := Chg.trans h h' fun _ _ e => e
theorem Off.drewN (h : Off gr base w a) (k : Nat) : Off gr base w (a.drewN k) := Chg.drewN h k
theorem Off.size (h : Off gr base w a) : w.heap.size ≤ a.heap.size := Chg.size h
end
def PathPost (base g bm n gr : Nat) (A : Option Addr) (m c : Nat) (l : List UInt8) (x : List Pth × Nat × Nat) (w : World) (y : Ending) (w' : World) : Prop :=
  y = .returned (.tuple #[]) ∧ (∃ pv', Dc w' base g pv' bm n x.1) ∧ Rd 71 w' gr A m c l x.2.1 x.2.2 ∧ Off gr base w w'
set_option maxRecDepth 100000 in
set_option maxHeartbeats 2000000 in
theorem readPath_any {w : World} {base g : Nat} {pv : Value} {bm n : Nat} {Q : List Pth} (h : Dc w base g pv bm n Q) {gr : Nat} {A : Option Addr} {m c : Nat} {l : List UInt8} {p e : Nat} (hR : Rd 71 w gr A m c l p e) (hgr : gr < base) (hQ : Q.length < 40) :
    Calls Try.prog 40 #[.pointer (some ⟨g, 0, none⟩), .pointer (some ⟨gr, 0, none⟩)] w (PathPost base g bm n gr A m c l (rdS n l (Q, p, e)) w) := by
  obtain ⟨a, ha, hal⟩ := lk_nat l p e (hi := Q.length)
  have hint := int_any w gr A m c l p e hR 0 (Q.length : Int)
  obtain ⟨k, hk⟩ : ∃ k, Hid (lk l p e 0 (Q.length : Int) = k) := ⟨_, Lib.hid rfl⟩
  rw [hk.out] at hint ha
  obtain ⟨k0, k1, e1⟩ := k
  simp only at ha hint
  subst ha
  obtain ⟨t, ht⟩ : ∃ t, Hid (tx l (p + k1) e1 12 = t) := ⟨_, Lib.hid rfl⟩
  obtain ⟨s, p2, e2⟩ := t
  have hsl : s.length ≤ 12 := by have := tx_len l (p + k1) e1; rw [ht.out] at this; exact this
  have hstep := Lib.hid (rdS_is (n := n) hk.out ht.out)
  have htx := fun (W : World) (hW : Rd 71 W gr A m c l (p + k1) e1) => text_any W gr A m c l (p + k1) e1 hW 12
  rw [ht.out] at htx
  have hln := len_any h
  have HD := Lib.hid h
  have HX := Lib.hid htx
  have hgl : gr < w.heap.size := hR.lt
  have hbw : base ≤ w.heap.size := Nat.le_trans h.gb (Nat.le_of_lt h.block.lt)
  obtain ⟨L, hL⟩ : ∃ L, Hid (Q.length = L) := ⟨_, Lib.hid rfl⟩
  rw [hL.out] at hint hln
  clear h hR htx
  obtain ⟨X, hX⟩ : ∃ X, Hid (rdS n l (Q, p, e) = X) := ⟨_, Lib.hid rfl⟩
  rw [hX.out]
  go_enter Try.func40, Try.ntmps40
  go_wp2_with fail
  refine hln.mono ?_
  rintro y w' ⟨rfl, rfl⟩
  go_wp2_with fail
  refine hint.mono ?_
  rintro y w1 ⟨rfl, hR1, hG1⟩
  have hD1 := HD.out.other hG1 hgr
  have hB1 := (Off.refl gr base w).grown hG1
  have hs1 := hG1.size
  clear hint hG1 hln
  go_wp2_with fail
  refine (HX.out w1 hR1).mono ?_
  rintro y w2 ⟨rfl, hR2, hG2⟩
  have hD2 := hD1.other hG2 hgr
  have hB2 := hB1.grown hG2
  have hs2 := hG2.size
  have hb3 := below_a1 w2 (.cells #[.int .i64 (a : Int), .string ⟨s.toArray⟩] 77)
  have hD3 := hD2.below hb3
  have hR3 := hR2.below hb3 hR2.lt
  have hB3 := hB2.more (hb3.mono (by omega))
  have hbx := Block.new w2 77 #[.int .i64 (a : Int), .string ⟨s.toArray⟩]
  obtain ⟨w3, hw3⟩ : ∃ w3, w3 = w2.alloc (.cells #[.int .i64 (a : Int), .string ⟨s.toArray⟩] 77) := ⟨_, rfl⟩
  rw [← hw3] at hD3 hR3 hB3 hbx
  have j0 : w3.cell? ⟨w2.heap.size, 0, none⟩ = some (.int .i64 (a : Int)) := hbx.cell 0
  have j1 : w3.cell? ⟨w2.heap.size, 1, none⟩ = some (.string ⟨s.toArray⟩) := hbx.cell 1
  have Hbl : Hid (w2.heap.size < w3.heap.size) := Lib.hid hbx.lt
  have hsm : s.length ≤ maxLen := by unfold maxLen; omega
  obtain ⟨r, hr⟩ : ∃ r, Hid (decide (mayC n Q a s) = r) := ⟨_, Lib.hid rfl⟩
  have hmay := mayCome_any hD3 hal hsm hr
  have HD3 := Lib.hid hD3
  have HR3 := Lib.hid hR3
  clear hD1 hR1 hB1 hs1 hD2 hR2 hG2 hB2 hs2 hb3 hbx hD3 hR3
  go_wp2_with fail
  rw [← hw3]
  clear hw3
  go_wp2_with fail
  refine hmay.mono ?_
  rintro y w4 ⟨rfl, hb4⟩
  have hD4 := HD3.out.below hb4
  have hR4 := HR3.out.below hb4 HR3.out.lt
  have hB4 := hB3.more (hb4.mono (by have := hB3.size; omega))
  have j0' := (hb4.cell (p := ⟨w2.heap.size, 0, none⟩) Hbl.out).trans j0
  have j1' := (hb4.cell (p := ⟨w2.heap.size, 1, none⟩) Hbl.out).trans j1
  clear hmay hB3 j0 j1 hb4
  by_cases hm : mayC n Q a s
  · have h1 : r = true := by rw [← hr.out]; exact decide_eq_true hm
    subst h1
    have hcome := come_any hD4 hal hm.1 hm.2.2.1 (hD4.good.mayC_come hal hm hQ)
    have Hm : Hid (X = (Q ++ [pth Q a ++ [s]], p2, e2)) := Lib.hid (by rw [← hX.out, hstep.out]; exact if_pos hm)
    have HD4 := Lib.hid hD4
    clear hm hr hD4
    go_wp2_with fail
    refine hcome.mono ?_
    rintro y w5 ⟨pv5, rfl, hD5, hch5, _⟩
    have hb5 : Below base w4 w5 := hch5.below (Nat.le_trans HD4.out.gb (Nat.le_of_lt HD4.out.block.lt)) (fun k hk => (HD4.out.foot_base hk).1)
    have hF := Lib.hid (show PathPost base g bm n gr A m c l (Q ++ [pth Q a ++ [s]], p2, e2) w (.returned (.tuple #[])) w5 from ⟨rfl, ⟨pv5, hD5⟩, hR4.below hb5 hgr, hB4.more hb5⟩)
    clear hcome hD5 hch5 hb5 hR4 hB4
    go_wp2_with fail
    go_end0
    rw [Hm.out]
    exact hF.out
  · have h1 : r = false := by rw [← hr.out]; exact decide_eq_false hm
    subst h1
    have Hm : Hid (X = (Q, p2, if e2 = 0 then 2 else e2)) := Lib.hid (by rw [← hX.out, hstep.out]; exact if_neg hm)
    have hbad := bad_any w4 gr A m c l p2 e2 hR4
    clear hm hr
    go_wp2_with fail
    refine hbad.mono ?_
    rintro y w5 ⟨rfl, hR5, hG5⟩
    have hF := Lib.hid (show PathPost base g bm n gr A m c l (Q, p2, if e2 = 0 then 2 else e2) w (.returned (.tuple #[])) w5 from ⟨rfl, ⟨pv, hD4.other hG5 hgr⟩, hR5, hB4.grown hG5⟩)
    clear hbad hR5 hG5 hB4 hR4 hD4
    go_wp2_with fail
    go_end0
    rw [Hm.out]
    exact hF.out

def ReadPost (n gr : Nat) (A : Option Addr) (m c : Nat) (l : List UInt8) (x : List Pth × Nat × Nat) (w : World) (y : Ending) (w' : World) : Prop :=
  ((x.2.2 = 0 ∧ ∃ g pv bm, y = .returned (.pointer (some ⟨g, 0, none⟩)) ∧ Dc w' w.heap.size g pv bm n x.1) ∨ (x.2.2 ≠ 0 ∧ y = .returned (.pointer none))) ∧ Rd 71 w' gr A m c l x.2.1 x.2.2 ∧ Off gr w.heap.size w w'
theorem rdD_is {n : Nat} {l : List UInt8} {p e a k1 e1 : Nat} {Q : List Pth} {p2 e2 d : Nat} (h1 : rdI l p e = ((a : Int), k1, e1)) (h2 : rdN n l ([], p + k1, e1) a = (Q, p2, e2)) (h3 : dueP n Q = d) : rdD n l p e = (Q, p2, if e2 = 0 then (if d = 0 then 0 else 2) else e2) := by
  unfold rdD
  simp only [h1, Int.toNat_natCast, h2, h3]
set_option maxRecDepth 100000 in
set_option maxHeartbeats 2000000 in
theorem read_any {w : World} {n : Nat} (hn : 1 ≤ n ∧ n ≤ 3) {gr : Nat} {A : Option Addr} {m c : Nat} {l : List UInt8} {p e : Nat} (hR : Rd 71 w gr A m c l p e) :
    Calls Try.prog 15 #[.pointer (some ⟨gr, 0, none⟩), .int .i64 (n : Int)] w (ReadPost n gr A m c l (rdD n l p e) w) := by
  obtain ⟨a, ha, hal⟩ := lk_nat l p e (hi := 40)
  obtain ⟨k, hk⟩ : ∃ k, Hid (rdI l p e = k) := ⟨_, Lib.hid rfl⟩
  obtain ⟨k0, k1, e1⟩ := k
  have hk' : lk l p e 0 40 = (k0, k1, e1) := hk.out
  have ha' : k0 = (a : Int) := by have h1 : (lk l p e 0 ((40 : Nat) : Int)).1 = (a : Int) := ha; rw [show ((40 : Nat) : Int) = 40 from rfl, hk'] at h1; exact h1
  subst ha'
  have hint := fun (W : World) (hW : Rd 71 W gr A m c l p e) => int_any W gr A m c l p e hW 0 40
  rw [hk'] at hint
  have Hint := Lib.hid hint
  have hgl := hR.lt
  have hnw := new_any w hn
  have HR := Lib.hid hR
  have Hn := Lib.hid hn
  obtain ⟨X, hX⟩ : ∃ X, Hid (rdD n l p e = X) := ⟨_, Lib.hid rfl⟩
  rw [hX.out]
  clear hn hR ha hk' hint
  go_enter Try.func15, Try.ntmps15
  go_wp2_with fail
  refine hnw.mono ?_
  rintro y w1 ⟨rfl, hD1, hB1⟩
  have hR1 := HR.out.below hB1 hgl
  have hs1 := hB1.size
  clear hnw
  go_wp2_with fail
  refine (Hint.out w1 hR1).mono ?_
  rintro y w2 ⟨rfl, hR2, hG2⟩
  have hD2 := hD1.other hG2 hgl
  have hB2 : Off gr w.heap.size w w2 := ((Off.refl gr w.heap.size w).more hB1).grown hG2
  clear hR1 hD1 hG2 hB1 hs1
  go_wp2_with fail
  go_loopw [16] (fun i wr => ∃ (k : Nat) (pv : Value), k ≤ a ∧ i = .int .i64 k ∧ Dc wr w.heap.size (w.heap.size + 1) pv w.heap.size n (rdN n l ([], p + k1, e1) k).1 ∧ Rd 71 wr gr A m c l (rdN n l ([], p + k1, e1) k).2.1 (rdN n l ([], p + k1, e1) k).2.2 ∧ Off gr w.heap.size w wr) (fun i _ => a - (intOf i).toNat)
  case atStart => exact ⟨0, .slice none 0 0, Nat.zero_le _, rfl, hD2, hR2, hB2⟩
  case round =>
    clear hD2 hR2 hB2
    obtain ⟨k, pv, hka, rfl, hD, hRd, hB⟩ := hrel
    obtain ⟨Y, hY⟩ : ∃ Y, Hid (rdN n l ([], p + k1, e1) k = Y) := ⟨_, Lib.hid rfl⟩
    rw [hY.out] at hD hRd
    obtain ⟨Q, p2, e2⟩ := Y
    have hQk : Hid (Q.length ≤ k) := Lib.hid (by have := (rdN_good (n := n) (l := l) (x := ([], p + k1, e1)) (good_nil Hn.out) rfl (i := k) (by omega)).2; rw [hY.out] at this; exact this)
    by_cases hlt : k < a
    · have hQ40 : Q.length < 40 := Nat.lt_of_le_of_lt hQk.out (Nat.lt_of_lt_of_le hlt hal)
      have hrp := readPath_any hD hRd hgl hQ40
      clear hQ40
      obtain ⟨Z, hZ⟩ : ∃ Z, Hid (rdS n l (Q, p2, e2) = Z) := ⟨_, Lib.hid rfl⟩
      rw [hZ.out] at hrp
      have hst : Hid (rdN n l ([], p + k1, e1) (k + 1) = Z) := Lib.hid (by show rdS n l (rdN n l _ k) = _; rw [hY.out]; exact hZ.out)
      clear hD hRd
      go_wp2_with fail
      refine hrp.mono ?_
      rintro y w3 ⟨rfl, ⟨pv3, hD3⟩, hR3, hB3⟩
      have hF := Lib.hid (show Dc w3 w.heap.size (w.heap.size + 1) pv3 w.heap.size n Z.1 ∧ Rd 71 w3 gr A m c l Z.2.1 Z.2.2 ∧ Off gr w.heap.size w w3 from ⟨hD3, hR3, hB.trans hB3⟩)
      clear hrp hD3 hR3 hB3 hB
      go_wp2_with fail
      go_roundw
      case rel => exact ⟨k + 1, pv3, by omega, by go_num, by rw [hst.out]; exact hF.out.1, by rw [hst.out]; exact hF.out.2.1, hF.out.2.2⟩
      case measure => simp [intOf]; omega
    · have hka' : Hid (k = a) := Lib.hid (by omega)
      obtain ⟨d, hd⟩ : ∃ d, Hid (dueP n Q = d) := ⟨_, Lib.hid rfl⟩
      have hdue := due_any hD hd
      have hXe : Hid (X = (Q, p2, if e2 = 0 then (if d = 0 then 0 else 2) else e2)) := Lib.hid (by rw [← hX.out]; exact rdD_is hk.out (by rw [← hka'.out]; exact hY.out) hd.out)
      have HD := Lib.hid hD
      have HRd := Lib.hid hRd
      have hBs := hB.size
      clear hD hRd
      go_wp2_with fail
      refine hdue.mono ?_
      rintro y w3 ⟨rfl, hB3⟩
      have hD3 := HD.out.below hB3
      have hR3 := HRd.out.below hB3 HRd.out.lt
      have hB4 := hB.more (hB3.mono hBs)
      clear hdue hB3 hB
      by_cases hd0 : d = 0
      · subst hd0
        by_cases he : e2 = 0
        · subst he
          have hXe2 : Hid (X = (Q, p2, 0)) := Lib.hid (by rw [hXe.out]; rfl)
          have hf := failed_any w3 gr A m c l p2 0 hR3
          have hF := Lib.hid (show ReadPost n gr A m c l (Q, p2, 0) w (.returned (.pointer (some ⟨w.heap.size + 1, 0, none⟩))) w3 from ⟨.inl ⟨rfl, _, _, _, rfl, hD3⟩, hR3, hB4⟩)
          clear hD3 hR3 hB4
          go_wp2_with fail
          refine hf.mono ?_
          rintro y w4 ⟨rfl, rfl⟩
          go_wp2_with fail
          go_ret
          rw [hXe2.out]
          exact hF.out
        · have hXe2 : Hid (X = (Q, p2, e2)) := Lib.hid (by rw [hXe.out, if_neg he])
          have hf := failed_any w3 gr A m c l p2 e2 hR3
          have hF := Lib.hid (show ReadPost n gr A m c l (Q, p2, e2) w (.returned (.pointer none)) w3 from ⟨.inr ⟨he, rfl⟩, hR3, hB4⟩)
          have he1 : ((e2 : Int) != 0) = true := by simpa using he
          clear hD3 hR3 hB4 he
          go_wp2_with fail
          refine hf.mono ?_
          rintro y w4 ⟨rfl, rfl⟩
          go_wp2_with fail
          go_ret
          rw [hXe2.out]
          exact hF.out
      · have hd1 : ((d : Int) != 0) = true := by simp; omega
        obtain ⟨e3, he3⟩ : ∃ e3, Hid ((if e2 = 0 then 2 else e2) = e3) := ⟨_, Lib.hid rfl⟩
        have hne : e3 ≠ 0 := by rw [← he3.out]; split <;> omega
        have hXe2 : Hid (X = (Q, p2, e3)) := Lib.hid (by rw [hXe.out, if_neg hd0, he3.out])
        have hbad := bad_any w3 gr A m c l p2 e2 hR3
        rw [he3.out] at hbad
        have he1 : ((e3 : Int) != 0) = true := by simpa using hne
        have Hne := Lib.hid hne
        have hs3 := hR3.lt
        clear hd0 hne
        go_wp2_with fail
        refine hbad.mono ?_
        rintro y w4 ⟨rfl, hR4, hG4⟩
        have hf := failed_any w4 gr A m c l p2 e3 hR4
        have hF := Lib.hid (show ReadPost n gr A m c l (Q, p2, e3) w (.returned (.pointer none)) w4 from ⟨.inr ⟨Hne.out, rfl⟩, hR4, hB4.grown hG4⟩)
        clear hbad hR4 hG4 hB4 hR3 hD3
        go_wp2_with fail
        refine hf.mono ?_
        rintro y w5 ⟨rfl, rfl⟩
        go_wp2_with fail
        go_ret
        rw [hXe2.out]
        exact hF.out
theorem read_no {w : World} {n : Int} (hn : ¬ (1 ≤ n ∧ n ≤ 3)) {gr : Nat} :
    Calls Try.prog 15 #[.pointer (some ⟨gr, 0, none⟩), .int .i64 n] w fun y w' => y = .returned (.pointer none) ∧ w = w' := by
  have hnw := new_no w hn
  clear hn
  go_enter Try.func15, Try.ntmps15
  go_wp2_with fail
  refine hnw.mono ?_
  rintro y w1 ⟨rfl, rfl⟩
  go_wp2_with fail
  go_ret
  exact ⟨rfl, rfl⟩
end Go.Proofs.Ytccdjjpkcahgfaa
