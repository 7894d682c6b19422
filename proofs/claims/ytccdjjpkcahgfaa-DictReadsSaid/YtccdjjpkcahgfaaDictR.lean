/- Layer 7: the reference's dictionary: find, Code, Path, Up. -/
import Derived.Test.YtccdjjpkcahgfaaDictT
import Derived.Test.YtccdjjpkcahgfaaDictQ
namespace Go.Proofs.Ytccdjjpkcahgfaa
open Go.RowKit

structure Rf (w : World) (base r n : Nat) (Lv : Value) (Q : List Pth) : Prop where
  block : Block w r 49 #[.int .i64 (n : Int), Lv]
  row : OwnTs w base Lv Q
  rb : base ≤ r
  good : Good n Q
/-- Its blocks (but for its paths' own). -/
def footR (r : Nat) (Lv : Value) (k : Nat) : Prop := k = r ∨ Lv.ownBlock = some k
section
variable {w w' : World} {base r n : Nat} {Lv : Value} {Q : List Pth}
theorem Rf.drewN (h : Rf w base r n Lv Q) (k : Nat) : Rf (w.drewN k) base r n Lv Q := ⟨h.block.drewN k, h.row.drewN k, h.rb, h.good⟩
theorem Rf.chg {S : Nat → Prop} (h : Rf w base r n Lv Q) (hc : Chg S w w') (hS : NoT w S) (hr : ¬ S r) : Rf w' base r n Lv Q :=
  ⟨(hc.block r h.block.lt hr).trans h.block, h.row.chg hc hS, h.rb, h.good⟩
theorem Rf.below (h : Rf w base r n Lv Q) (hb : Below w.heap.size w w') : Rf w' base r n Lv Q := h.chg (S := fun _ => False) (Chg.of_below hb (Nat.le_refl _)) (NoT.none w) (fun h => h)
theorem Rf.c0 (h : Rf w base r n Lv Q) : w.cell? ⟨r, 0, none⟩ = some (.int .i64 (n : Int)) := h.block.cell 0
theorem Rf.c1 (h : Rf w base r n Lv Q) : w.cell? ⟨r, 1, none⟩ = some Lv := h.block.cell 1
end

theorem find_none {α : Type} {l : List α} {k : Nat} {x y : α} (h : ∀ j, j < k → l[j]? ≠ some x) (hy : l[k]? = some y) (hne : y ≠ x) : ∀ j, j < k + 1 → l[j]? ≠ some x := by
  intro j hj
  rcases Nat.lt_or_ge j k with h1 | h1
  · exact h j h1
  · obtain rfl : j = k := by omega
    rw [hy]
    exact fun e => hne (Option.some.inj e)
theorem find_all {l : List Pth} {x : Pth} (h : ∀ j, j < l.length → l[j]? ≠ some x) : fnd l x = 0 := by
  refine fnd_no fun hm => ?_
  obtain ⟨j, hj⟩ := List.getElem?_of_mem hm
  exact h j (List.getElem?_eq_some_iff.1 hj).1 hj

set_option maxRecDepth 100000 in
set_option maxHeartbeats 1000000 in
/-- find. -/
theorem refFind_any {w : World} {base r n : Nat} {Lv : Value} {Q : List Pth} (h : Rf w base r n Lv Q) {B : Nat} {A : Option Addr} {m c : Nat} {p : Pth} (hp : HasT w B A m c p) {x : Nat} (hx : Hid (fnd Q p = x)) :
    Calls Try.prog 31 #[.pointer (some ⟨r, 0, none⟩), .slice A m c] w fun e w' => e = .returned (.int .i64 (x : Int)) ∧ ∃ k, w' = w.drewN k := by
  obtain ⟨A2, cap, rfl, hT⟩ := h.row.form
  have hcap := hT.cap
  have hQ := h.good.size
  have hH := Lib.hid h
  have HT := Lib.hid hT
  have c1 := fun q => (h.drewN q).c1
  clear hT h
  go_enter Try.func31, Try.ntmps31
  go_wp2
  go_loopw [5] (fun i wr => ∃ k q : Nat, k ≤ Q.length ∧ i = .int .i64 k ∧ wr = w.drewN q ∧ Hid (∀ j, j < k → Q[j]? ≠ some p)) (fun i _ => Q.length - (intOf i).toNat)
  case atStart => exact ⟨0, 0, Nat.zero_le _, rfl, rfl, Lib.hid (fun j hj => by omega)⟩
  case round =>
    obtain ⟨k, q, hk, rfl, rfl, hno⟩ := hrel
    have c1q := c1 q
    by_cases hlt : k < Q.length
    · obtain ⟨y, hy⟩ : ∃ y, Hid (Q[k]? = some y) := ⟨_, Lib.hid (List.getElem?_eq_getElem hlt)⟩
      obtain ⟨b, o, A', n', c', rfl, hb, hc, hty⟩ := HT.out.has k y hy.out
      have hcq : (w.drewN q).cell? ⟨b, o + k, none⟩ = some (.slice A' n' c') := hc
      have hs := sameT_any (w := w.drewN q) (hty.drewN q) (hp.drewN q)
      have hk0 : (0 : Int) ≤ (k : Int) := by omega
      have hk1 : (k : Int) < (Q.length : Int) := by omega
      by_cases he : y = p
      · rw [decide_eq_true he] at hs
        have hxk : Hid (x = k + 1) := Lib.hid (by rw [← hx.out]; exact fnd_of (by rw [hy.out, he]) hno.out)
        clear he
        go_wp2_with fail
        refine hs.mono ?_
        rintro e w' ⟨rfl, j, rfl⟩
        go_wp2_with fail
        go_ret
        exact ⟨i64_of (by have := hxk.out; omega), q + j, by first | rfl | exact World.drewN_drewN _ _ _⟩
      · rw [decide_eq_false he] at hs
        have hno2 := Lib.hid (find_none hno.out hy.out he)
        clear he
        go_wp2_with fail
        refine hs.mono ?_
        rintro e w' ⟨rfl, j, rfl⟩
        go_wp2_with fail
        go_roundw
        case rel => exact ⟨k + 1, q + j, by omega, by go_num, by first | rfl | exact World.drewN_drewN _ _ _, hno2⟩
        case measure => simp [intOf]; omega
    · have hx0 : Hid (x = 0) := Lib.hid (by rw [← hx.out]; exact find_all (fun j hj => hno.out j (by omega)))
      go_wp2_with fail
      go_ret
      exact ⟨i64_of (by have := hx0.out; omega), q, rfl⟩

set_option maxRecDepth 100000 in
set_option maxHeartbeats 1000000 in
/-- Code. -/
theorem refCode_any {w : World} {base r n : Nat} {Lv : Value} {Q : List Pth} (h : Rf w base r n Lv Q) {B : Nat} {A : Option Addr} {m c : Nat} {p : Pth} (hp : HasT w B A m c p) {x e : Nat} (hx : Hid (codeA Q p = (x, e))) :
    Calls Try.prog 10 #[.pointer (some ⟨r, 0, none⟩), .slice A m c] w fun y w' => y = .returned (.tuple #[.int .i64 (x : Int), .int .i64 (e : Int)]) ∧ ∃ k, w' = w.drewN k := by
  have hmy := refMay_any hp
  have hpl := hp.len
  by_cases hm : mayP p
  · rw [decide_eq_true hm] at hmy
    have hm3 : m ≤ 3 := by rw [← hpl]; exact hm.1
    have hA : codeA Q p = if p = [] then (0, 0) else if p ∈ Q then (fnd Q p, 0) else (0, 33) := if_pos hm
    rw [hA] at hx
    clear hA hm
    by_cases h0 : m = 0
    · have Hx : Hid ((0, 0) = (x, e)) := Lib.hid (by have := hx.out; rwa [if_pos (List.eq_nil_of_length_eq_zero (by omega))] at this)
      subst h0
      clear hpl
      go_enter Try.func10, Try.ntmps10
      go_wp2_with fail
      refine hmy.mono ?_
      rintro y w1 ⟨rfl, rfl⟩
      go_wp2_with fail
      go_ret2
      exact ⟨up_two Hx.out, 0, rfl⟩
    · have hne : p ≠ [] := fun e => by rw [e] at hpl; simp at hpl; omega
      have hm0 : ((m : Int) == 0) = false := by simp; omega
      obtain ⟨d, hd⟩ : ∃ d, Hid (fnd Q p = d) := ⟨_, Lib.hid rfl⟩
      have hf := refFind_any h hp hd
      by_cases hin : p ∈ Q
      · have Hx : Hid ((d, 0) = (x, e)) := Lib.hid (by have := hx.out; rwa [if_neg hne, if_pos hin, hd.out] at this)
        have hd0 : ((d : Int) == 0) = false := by have := fnd_pos.2 hin; rw [hd.out] at this; simp; omega
        clear hpl h0
        go_enter Try.func10, Try.ntmps10
        go_wp2_with fail
        refine hmy.mono ?_
        rintro y w1 ⟨rfl, rfl⟩
        go_wp2_with fail
        refine hf.mono ?_
        rintro y w1 ⟨rfl, k, rfl⟩
        go_wp2_with fail
        go_ret2
        exact ⟨up_two Hx.out, k, rfl⟩
      · have Hx : Hid ((0, 33) = (x, e)) := Lib.hid (by have := hx.out; rwa [if_neg hne, if_neg hin] at this)
        obtain rfl : d = 0 := by rw [← hd.out]; exact fnd_no hin
        clear hpl h0
        go_enter Try.func10, Try.ntmps10
        go_wp2_with fail
        refine hmy.mono ?_
        rintro y w1 ⟨rfl, rfl⟩
        go_wp2_with fail
        refine hf.mono ?_
        rintro y w1 ⟨rfl, k, rfl⟩
        go_wp2_with fail
        go_ret2
        exact ⟨up_two Hx.out, k, rfl⟩
  · rw [decide_eq_false hm] at hmy
    have Hx : Hid ((0, 10) = (x, e)) := Lib.hid (by have := hx.out; unfold codeA at this; rwa [if_neg hm] at this)
    clear hpl hm
    go_enter Try.func10, Try.ntmps10
    go_wp2_with fail
    refine hmy.mono ?_
    rintro y w1 ⟨rfl, rfl⟩
    go_wp2_with fail
    go_ret2
    exact ⟨up_two Hx.out, 0, rfl⟩

set_option maxRecDepth 100000 in
/-- Path, of a code that is there. -/
theorem refPath_any {w : World} {base r n : Nat} {Lv : Value} {Q : List Pth} (h : Rf w base r n Lv Q) (m : Nat) (hm : m ≤ Q.length) {q : Pth} (hq : Hid (pth Q m = q)) :
    Calls Try.prog 32 #[.pointer (some ⟨r, 0, none⟩), .int .i64 (m : Int)] w fun y w' => (∃ A k c, y = .returned (.tuple #[.slice A k c, .int .i64 0]) ∧ HasT w w.heap.size A k c q) ∧ w = w' := by
  obtain ⟨A2, cap, rfl, hT⟩ := h.row.form
  have hcap := hT.cap
  have hQ := h.good.size
  have c1 := h.c1
  rcases m with _ | k
  · obtain rfl : q = [] := by rw [← hq.out]; rfl
    go_enter Try.func32, Try.ntmps32
    go_wp2_with fail
    go_ret2
    exact ⟨⟨none, 0, 0, rfl, ⟨rfl, Nat.le_refl _, Nat.zero_le _, fun _ => rfl, Has.nil_⟩⟩, rfl⟩
  · have hk := pth_some (Q := Q) (c := k + 1) (by omega) hm
    rw [hq.out, Nat.add_sub_cancel] at hk
    obtain ⟨b, o, A', n', c', rfl, hb, hc, hty⟩ := hT.has k q hk
    have Hty := Lib.hid hty
    have h1 : ¬ (Q.length : Int) < (k : Int) + 1 := by omega
    have h2 : ((k : Int) + 1 == 0) = false := by simp; omega
    have h3 : (k : Int) + 1 - 1 = (k : Int) := by omega
    have h4 : (0 : Int) ≤ (k : Int) := by omega
    have h5 : (k : Int) < (Q.length : Int) := by omega
    clear hty hT hk
    go_enter Try.func32, Try.ntmps32
    go_wp2_with fail
    go_ret2
    exact ⟨⟨A', n', c', rfl, Hty.out⟩, rfl⟩
theorem refPath_no {w : World} {base r n : Nat} {Lv : Value} {Q : List Pth} (h : Rf w base r n Lv Q) (c : Int) (hc : ¬ (0 ≤ c ∧ c ≤ (Q.length : Int))) :
    Calls Try.prog 32 #[.pointer (some ⟨r, 0, none⟩), .int .i64 c] w fun y w' => y = .returned (.tuple #[.slice none 0 0, .int .i64 33]) ∧ w = w' := by
  obtain ⟨A2, cap, rfl, hT⟩ := h.row.form
  have hQ := h.good.size
  have c1 := h.c1
  by_cases h0 : c < 0
  · go_enter Try.func32, Try.ntmps32
    go_wp2_with fail
    go_ret2
    exact ⟨rfl, rfl⟩
  · have h1 : (Q.length : Int) < c := by omega
    clear hc
    go_enter Try.func32, Try.ntmps32
    go_wp2_with fail
    go_ret2
    exact ⟨rfl, rfl⟩

set_option maxRecDepth 100000 in
set_option maxHeartbeats 1000000 in
/-- Up. -/
theorem refDup_any {w : World} {base r n : Nat} {Lv : Value} {Q : List Pth} (h : Rf w base r n Lv Q) (c k : Int) {x e : Nat} (hx : Hid (upA Q c k = (x, e))) :
    Calls Try.prog 35 #[.pointer (some ⟨r, 0, none⟩), .int .i64 c, .int .i64 k] w fun y w' => y = .returned (.tuple #[.int .i64 (x : Int), .int .i64 (e : Int)]) ∧ ∃ j, w' = w.drewN j := by
  by_cases hc : 0 ≤ c ∧ c ≤ (Q.length : Int)
  · obtain ⟨m, rfl⟩ : ∃ m : Nat, c = (m : Int) := ⟨c.toNat, by omega⟩
    obtain ⟨q, hq⟩ : ∃ q, Hid (pth Q m = q) := ⟨_, Lib.hid rfl⟩
    have hA : upA Q (m : Int) k = if 0 ≤ k ∧ k ≤ (q.length : Int) then (fnd Q (q.take k.toNat), 0) else (0, 1) := by
      unfold upA; rw [if_pos hc]; simp only [Int.toNat_natCast, hq.out]
    rw [hA] at hx
    have hl := refPath_any h m (by omega) hq
    have hH := Lib.hid h
    clear hc hA h
    go_enter Try.func35, Try.ntmps35
    go_wp2_with fail
    refine hl.mono ?_
    rintro y w' ⟨⟨A, n', c', rfl, hT⟩, rfl⟩
    have hn' := hT.len
    have hcap := hT.cap
    have hcm := hT.capMax
    clear hl
    by_cases hk : 0 ≤ k
    · by_cases hk2 : k ≤ (n' : Int)
      · obtain ⟨i, rfl⟩ : ∃ i : Nat, k = (i : Int) := ⟨k.toNat, by omega⟩
        have Hx : Hid ((fnd Q (q.take i), 0) = (x, e)) := Lib.hid (by have := hx.out; rw [if_pos ⟨hk, by omega⟩] at this; simpa using this)
        have hf := refFind_any hH.out (hT.take_ i (by omega)) (x := x) (Lib.hid (by have := Hx.out; injection this))
        have he : Hid (0 = e) := Lib.hid (by have := Hx.out; injection this)
        have h1 : ¬ (n' : Int) < (i : Int) := by omega
        have h2 : (i : Int) ≤ (c' : Int) := by omega
        clear hT hx Hx hn'
        go_wp2_with fail
        refine hf.mono ?_
        rintro y w' ⟨rfl, j, rfl⟩
        go_wp2_with fail
        go_ret2
        exact ⟨up_two (by rw [← he.out]), j, rfl⟩
      · have Hx : Hid ((0, 1) = (x, e)) := Lib.hid (by have := hx.out; rwa [if_neg (fun h => hk2 (by omega))] at this)
        have h1 : (n' : Int) < k := by omega
        clear hT hx hn'
        go_wp2_with fail
        go_ret2
        exact ⟨up_two Hx.out, 0, rfl⟩
    · have Hx : Hid ((0, 1) = (x, e)) := Lib.hid (by have := hx.out; rwa [if_neg (fun h => hk h.1)] at this)
      clear hT hx hn'
      go_wp2_with fail
      go_ret2
      exact ⟨up_two Hx.out, 0, rfl⟩
  · have Hx : Hid ((0, 33) = (x, e)) := Lib.hid (by have := hx.out; unfold upA at this; rwa [if_neg hc] at this)
    have hl := refPath_no h c hc
    clear hx hc
    go_enter Try.func35, Try.ntmps35
    go_wp2_with fail
    refine hl.mono ?_
    rintro y w' ⟨rfl, rfl⟩
    go_wp2_with fail
    go_ret2
    exact ⟨up_two Hx.out, 0, rfl⟩
end Go.Proofs.Ytccdjjpkcahgfaa
