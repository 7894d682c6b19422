/- CubRA, CubRE -/
import Derived.Test.YteifhgcjmjihgaaJ2
import Derived.Test.YteifhgcjmjihgaaJ5
import Derived.Test.YteifhgcjmjihgaaJ12
import Derived.Test.YteifhgcjmjihgaaJ20
namespace Go.Proofs.Yteifhgcjmjihgaa
set_option maxRecDepth 100000
open Go.RowKit

/-- The reference's cuboid: block r; its cells in a row of blocks S. -/
structure Rq (w : World) (r W m : Nat) (S : Nat → Prop) (A : Option Addr) (n c : Nat) (C : Cub) : Prop where
  blk : Block w r 47 #[.int .i64 (W : Int), .int .i64 (m : Int), .slice A n c]
  row : Row elUnd 5 w S A n c C
section
variable {w w' : World} {r W m n c : Nat} {S : Nat → Prop} {A : Option Addr} {C : Cub}
theorem Rq.c0 (h : Rq w r W m S A n c C) : w.cell? ⟨r, 0, none⟩ = some (.int .i64 (W : Int)) := h.blk.cell 0
theorem Rq.c1 (h : Rq w r W m S A n c C) : w.cell? ⟨r, 1, none⟩ = some (.int .i64 (m : Int)) := h.blk.cell 1
theorem Rq.c2 (h : Rq w r W m S A n c C) : w.cell? ⟨r, 2, none⟩ = some (.slice A n c) := h.blk.cell 2
theorem Rq.belowS (h : Rq w r W m S A n c C) (hb : Below w.heap.size w w') : Rq w' r W m S A n c C := ⟨h.blk.below hb h.blk.lt, h.row.mv elUnd_ok (Mv.belowS hb S)⟩
end
set_option maxRecDepth 100000 in
set_option maxHeartbeats 1000000 in
/-- Is. -/
theorem refIsK_any {w : World} {r W B n c : Nat} {A : Option Addr} {L : List Int} (hc : w.cell? ⟨r, 0, none⟩ = some (.int .i64 (W : Int))) (h : HasI w B A n c L) :
    Calls Try.prog 29 #[.pointer (some ⟨r, 0, none⟩), .slice A n c] w fun e w' => e = .returned (.bool (decide (isKey W L))) ∧ ∃ k, w' = w.drewN k := by
  have hn := h.lenMax
  have hll := Lib.hid h.len
  by_cases hW : n = W
  · subst hW
    have hne : ((n : Int) != (n : Int)) = false := by simp
    go_enter Try.func29, Try.ntmps29
    go_wp2
    clear hne
    go_loopw [5] (fun i wr => ∃ k : Nat, k ≤ n ∧ i = .int .i64 k ∧ wr = w ∧ Hid (∀ j, j < k → 0 ≤ L.getD j 0 ∧ L.getD j 0 ≤ 40)) (fun i _ => n - (intOf i).toNat)
    case atStart => exact ⟨0, Nat.zero_le _, rfl, rfl, Lib.hid (fun j hj => absurd hj (by omega))⟩
    case round =>
      obtain ⟨k, hk, rfl, rfl, ht⟩ := hrel
      by_cases hlt : k < n
      · obtain ⟨b, o, x, rfl, hb, hcx, ex⟩ := h.at_ hlt
        have hno : ¬ (0 ≤ x ∧ x ≤ 40) → Hid (decide (isKey n L) = false) := fun hx => Lib.hid (decide_eq_false fun hk => hx (by
          have h1 := hk.2 x (by
            rw [ex.out, List.getD_eq_getElem?_getD, List.getElem?_eq_getElem (by rw [hll.out]; exact hlt)]
            exact List.getElem_mem _)
          exact h1))
        by_cases h0 : x < 0
        · have hd : decide (x < 0) = true := decide_eq_true h0
          have H := hno (by omega)
          clear hno
          go_wp2
          go_ret
          exact ⟨bool_of H.out.symm, 0, rfl⟩
        · have hd : decide (x < 0) = false := decide_eq_false h0
          by_cases h40 : 40 < x
          · have hd2 : decide (40 < x) = true := decide_eq_true h40
            have H := hno (by omega)
            clear hno
            go_wp2
            go_ret
            exact ⟨bool_of H.out.symm, 0, rfl⟩
          · have hd2 : decide (40 < x) = false := decide_eq_false h40
            have H : Hid (∀ j, j < k + 1 → 0 ≤ L.getD j 0 ∧ L.getD j 0 ≤ 40) := Lib.hid fun j hj => by
              by_cases hjk : j < k
              · exact ht.out j hjk
              · obtain rfl : j = k := by omega
                rw [← ex.out]; omega
            clear hno
            go_wp2
            go_roundw
            case rel => exact ⟨k + 1, by omega, by go_num, trivial, H⟩
            case measure => simp [intOf]; omega
      · have H : Hid (decide (isKey n L) = true) := Lib.hid (decide_eq_true ⟨hll.out, fun c hc => by
          obtain ⟨i, hi, rfl⟩ := List.getElem_of_mem hc
          have h1 := ht.out i (by have := hll.out; omega)
          rwa [List.getD_eq_getElem?_getD, List.getElem?_eq_getElem hi] at h1⟩)
        go_wp2
        go_ret
        exact ⟨bool_of H.out.symm, 0, rfl⟩
  · have H : Hid (decide (isKey W L) = false) := Lib.hid (decide_eq_false fun hk => hW (by have h1 := hk.1; have h2 := hll.out; omega))
    have hne : ((n : Int) != (W : Int)) = true := by simp; omega
    go_enter Try.func29, Try.ntmps29
    go_wp2
    go_ret
    exact ⟨bool_of H.out.symm, 0, rfl⟩

/-! ### Less -/
theorem lessK_at {L L' : List Int} : ∀ {k : Nat}, L.take k = L'.take k → k < L.length → k < L'.length → L.getD k 0 ≠ L'.getD k 0 → lessK L L' = decide (L.getD k 0 < L'.getD k 0) := by
  induction L generalizing L' with
  | nil => intro k _ h; simp at h
  | cons a L ih =>
    intro k h1 h2 h3 h4
    match L', k with
    | [], _ => simp at h3
    | b :: L', 0 =>
      rw [lessK]
      simp at h4
      rw [if_neg h4]
      simp
    | b :: L', k + 1 =>
      simp at h1 h2 h3 h4 ⊢
      rw [lessK, if_pos h1.1, ih h1.2 h2 h3 (by simpa using h4)]
      simp
theorem lessK_pre {L L' : List Int} (h : L.take (min L.length L'.length) = L'.take (min L.length L'.length)) : lessK L L' = decide (L.length < L'.length) := by
  induction L generalizing L' with
  | nil => cases L' <;> simp [lessK]
  | cons a L ih =>
    match L' with
    | [] => simp [lessK]
    | b :: L' =>
      simp only [List.length_cons] at h
      rw [show min (L.length + 1) (L'.length + 1) = min L.length L'.length + 1 by omega] at h
      simp at h
      rw [lessK, if_pos h.1, ih h.2]
      simp
set_option maxRecDepth 100000 in
set_option maxHeartbeats 1000000 in
theorem refLessK_any {A A' : Option Addr} {n c n' c' B B' : Nat} {L L' : List Int} {w : World} (hr : HasI w B A n c L) (hr' : HasI w B' A' n' c' L') :
    Calls Try.prog 53 #[.slice A n c, .slice A' n' c'] w fun e w' => e = .returned (.bool (lessK L L')) ∧ ∃ k, w' = w.drewN k := by
  have hn := hr.lenMax
  have hn' := hr'.lenMax
  have HL := Lib.hid hr.len
  have HL' := Lib.hid hr'.len
  go_enter Try.func53, Try.ntmps53
  go_wp2
  go_loopw [5] (fun i wr => ∃ k q : Nat, k ≤ n ∧ k ≤ n' ∧ i = .int .i64 k ∧ wr = w.drewN q ∧ Hid (L.take k = L'.take k)) (fun i _ => n - (intOf i).toNat)
  case atStart => exact ⟨0, 0, Nat.zero_le _, Nat.zero_le _, rfl, rfl, rfl⟩
  case round =>
    obtain ⟨k, q, hk, hk', rfl, rfl, ht⟩ := hrel
    have hend : ¬ (k < n ∧ k < n') → Hid (lessK L L' = decide (n < n')) := fun hx => Lib.hid (by
      have h1 := HL.out
      have h2 := HL'.out
      have hm : min L.length L'.length = k := by omega
      rw [lessK_pre (by rw [hm]; exact ht.out), h1, h2])
    by_cases hlt : k < n
    · have hd : decide ((k : Int) < (n : Int)) = true := decide_eq_true (by omega)
      by_cases hlt' : k < n'
      · have hd' : decide ((k : Int) < (n' : Int)) = true := decide_eq_true (by omega)
        obtain ⟨b, o, x, rfl, hb, hcx, ex⟩ := hr.at_ hlt
        obtain ⟨b', o', x', rfl, hb', hcx', ex'⟩ := hr'.at_ hlt'
        clear hend
        by_cases hxx : x = x'
        · subst hxx
          have hxn : (x != x) = false := by simp
          have H := Lib.hid (takeI_same (by have := HL.out; omega) (by have := HL'.out; omega) ht.out ex.out ex'.out)
          go_wp2
          go_quiet (fail)
          go_wp2
          go_roundw
          case rel => exact ⟨k + 1, q + nq, by omega, by omega, by go_num, rfl, H⟩
          case measure => simp [intOf]; omega
        · have hxn : (x != x') = true := by simp [hxx]
          have H : Hid (lessK L L' = decide (x < x')) := Lib.hid (by
            have h1 := HL.out
            have h2 := HL'.out
            rw [lessK_at ht.out (by omega) (by omega) (by rw [← ex.out, ← ex'.out]; exact hxx), ← ex.out, ← ex'.out])
          clear hxx
          go_wp2
          go_quiet (fail)
          go_wp2
          go_quiet (fail)
          go_wp2
          go_ret
          exact ⟨bool_of H.out.symm, _, by rw [World.drewN_drewN, World.drewN_drewN]⟩
      · have hd' : decide ((k : Int) < (n' : Int)) = false := decide_eq_false (by omega)
        have H := hend (by omega)
        clear hend
        go_wp2
        go_ret
        exact ⟨bool_of H.out.symm, q, rfl⟩
    · have hd : decide ((k : Int) < (n : Int)) = false := decide_eq_false (by omega)
      have H := hend (by omega)
      clear hend
      go_wp2
      go_ret
      exact ⟨bool_of H.out.symm, q, rfl⟩
end Go.Proofs.Yteifhgcjmjihgaa
namespace Go.Proofs.Yteifhgcjmjihgaa
set_option maxRecDepth 100000
open Go.RowKit

/-- What the reference's up tells. -/
def TellUp (w : World) (r : Option (List Int)) (e : Ending) (w' : World) : Prop := (match r with
    | none => e = .returned (.tuple #[.slice none 0 0, .bool false])
    | some j => ∃ v, e = .returned (.tuple #[v, .bool true]) ∧ OwnI w' w.heap.size v j) ∧ Below w.heap.size w w'
theorem TellUp.none_ {w w' : World} {e : Ending} (h : TellUp w none e w') : e = .returned (.tuple #[.slice none 0 0, .bool false]) ∧ Below w.heap.size w w' := h
theorem TellUp.some_ {w w' : World} {e : Ending} {j : List Int} (h : TellUp w (some j) e w') : (∃ v, e = .returned (.tuple #[v, .bool true]) ∧ OwnI w' w.heap.size v j) ∧ Below w.heap.size w w' := h
end Go.Proofs.Yteifhgcjmjihgaa
