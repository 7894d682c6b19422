/- CubRA, CubRE -/
import Derived.Test.YteifhgcjmjihgaaGreatJ2
import Derived.Test.YteifhgcjmjihgaaGreatJ5
import Derived.Test.YteifhgcjmjihgaaGreatJ12
import Derived.Test.YteifhgcjmjihgaaGreatJ20
namespace Go.Proofs.YteifhgcjmjihgaaGreat
set_option maxRecDepth 100000
open Go.RowKit

/-- The reference's cuboid: block r; its cells in a row of blocks S. -/
structure Rq (w : World) (r W m : Nat) (S : Nat → Prop) (A : Option Addr) (n c : Nat) (C : Cub) : Prop where
  blk : Block w r 59 #[.int .i64 (W : Int), .int .i64 (m : Int), .slice A n c]
  row : Row elUnd 5 w S A n c C
section
variable {w w' : World} {r W m n c : Nat} {S : Nat → Prop} {A : Option Addr} {C : Cub}
theorem Rq.c0 (h : Rq w r W m S A n c C) : w.cell? ⟨r, 0, none⟩ = some (.int .i64 (W : Int)) := h.blk.cell 0
theorem Rq.c1 (h : Rq w r W m S A n c C) : w.cell? ⟨r, 1, none⟩ = some (.int .i64 (m : Int)) := h.blk.cell 1
theorem Rq.c2 (h : Rq w r W m S A n c C) : w.cell? ⟨r, 2, none⟩ = some (.slice A n c) := h.blk.cell 2
theorem Rq.belowS (h : Rq w r W m S A n c C) (hb : Below w.heap.size w w') : Rq w' r W m S A n c C := ⟨h.blk.below hb h.blk.lt, h.row.mv elUnd_ok (Mv.belowS hb S)⟩
end
set_option maxRecDepth 100000 in
set_option maxHeartbeats 1000000 in
/-- Is. -/
theorem refIsK_any {w : World} {r W B n c : Nat} {A : Option Addr} {L : List Int} (hc : w.cell? ⟨r, 0, none⟩ = some (.int .i64 (W : Int))) (h : HasI w B A n c L) :
    Calls Tryz.prog 58 #[.pointer (some ⟨r, 0, none⟩), .slice A n c] w fun e w' => e = .returned (.bool (decide (isKey W L))) ∧ ∃ k, w' = w.drewN k := by
  have hn := h.lenMax
  have hll := Lib.hid h.len
  by_cases hW : n = W
  · subst hW
    have hne : ((n : Int) != (n : Int)) = false := by simp
    go_enter Tryz.func58, Tryz.ntmps58
    go_wp2
    clear hne
    go_loopw [5] (fun i wr => ∃ k : Nat, k ≤ n ∧ i = .int .i64 k ∧ wr = w ∧ Hid (∀ j, j < k → 0 ≤ L.getD j 0 ∧ L.getD j 0 ≤ 40)) (fun i _ => n - (intOf i).toNat)
    case atStart => exact ⟨0, Nat.zero_le _, rfl, rfl, Lib.hid (fun j hj => absurd hj (by omega))⟩
    case round =>
      obtain ⟨k, hk, rfl, rfl, ht⟩ := hrel
      by_cases hlt : k < n
      · obtain ⟨b, o, x, rfl, hb, hcx, ex⟩ := h.at_ hlt
        have hno : ¬ (0 ≤ x ∧ x ≤ 40) → Hid (decide (isKey n L) = false) := fun hx => Lib.hid (decide_eq_false fun hk => hx (by
          have h1 := hk.2 x (by
            rw [ex.out, List.getD_eq_getElem?_getD, List.getElem?_eq_getElem (by rw [hll.out]; exact hlt)]
            exact List.getElem_mem _)
          exact h1))
        by_cases h0 : x < 0
        · have hd : decide (x < 0) = true := decide_eq_true h0
          have H := hno (by omega)
          clear hno
          go_wp2
          go_ret
          exact ⟨bool_of H.out.symm, 0, rfl⟩
        · have hd : decide (x < 0) = false := decide_eq_false h0
          by_cases h40 : 40 < x
          · have hd2 : decide (40 < x) = true := decide_eq_true h40
            have H := hno (by omega)
            clear hno
            go_wp2
            go_ret
            exact ⟨bool_of H.out.symm, 0, rfl⟩
          · have hd2 : decide (40 < x) = false := decide_eq_false h40
            have H : Hid (∀ j, j < k + 1 → 0 ≤ L.getD j 0 ∧ L.getD j 0 ≤ 40) := Lib.hid fun j hj => by
              by_cases hjk : j < k
              · exact ht.out j hjk
              · obtain rfl : j = k := by omega
                rw [← ex.out]; omega
            clear hno
            go_wp2
            go_roundw
            case rel => exact ⟨k + 1, by omega, by go_num, trivial, H⟩
            case measure => simp [intOf]; omega
      · have H : Hid (decide (isKey n L) = true) := Lib.hid (decide_eq_true ⟨hll.out, fun c hc => by
          obtain ⟨i, hi, rfl⟩ := List.getElem_of_mem hc
          have h1 := ht.out i (by have := hll.out; omega)
          rwa [List.getD_eq_getElem?_getD, List.getElem?_eq_getElem hi] at h1⟩)
        go_wp2
        go_ret
        exact ⟨bool_of H.out.symm, 0, rfl⟩
  · have H : Hid (decide (isKey W L) = false) := Lib.hid (decide_eq_false fun hk => hW (by have h1 := hk.1; have h2 := hll.out; omega))
    have hne : ((n : Int) != (W : Int)) = true := by simp; omega
    go_enter Tryz.func58, Tryz.ntmps58
    go_wp2
    go_ret
    exact ⟨bool_of H.out.symm, 0, rfl⟩

/-! ### Less -/
theorem lessK_at {L L' : List Int} : ∀ {k : Nat}, L.take k = L'.take k → k < L.length → k < L'.length → L.getD k 0 ≠ L'.getD k 0 → lessK L L' = decide (L.getD k 0 < L'.getD k 0) := by
  induction L generalizing L' with
  | nil => intro k _ h; simp at h
  | cons a L ih =>
    intro k h1 h2 h3 h4
    match L', k with
    | [], _ => simp at h3
    | b :: L', 0 =>
      rw [lessK]
      simp at h4
      rw [if_neg h4]
      simp
    | b :: L', k + 1 =>
      simp at h1 h2 h3 h4 ⊢
      rw [lessK, if_pos h1.1, ih h1.2 h2 h3 (by simpa using h4)]
      simp
theorem lessK_pre {L L' : List Int} (h : L.take (min L.length L'.length) = L'.take (min L.length L'.length)) : lessK L L' = decide (L.length < L'.length) := by
  induction L generalizing L' with
  | nil => cases L' <;> simp [lessK]
  | cons a L ih =>
    match L' with
    | [] => simp [lessK]
    | b :: L' =>
      simp only [List.length_cons] at h
      rw [show min (L.length + 1) (L'.length + 1) = min L.length L'.length + 1 by omega] at h
      simp at h
      rw [lessK, if_pos h.1, ih h.2]
      simp
set_option maxRecDepth 100000 in
set_option maxHeartbeats 1000000 in
theorem refLessK_any {A A' : Option Addr} {n c n' c' B B' : Nat} {L L' : List Int} {w : World} (hr : HasI w B A n c L) (hr' : HasI w B' A' n' c' L') :
    Calls Tryz.prog 49 #[.slice A n c, .slice A' n' c'] w fun e w' => e = .returned (.bool (lessK L L')) ∧ ∃ k, w' = w.drewN k := by
  have hn := hr.lenMax
  have hn' := hr'.lenMax
  have HL := Lib.hid hr.len
  have HL' := Lib.hid hr'.len
  go_enter Tryz.func49, Tryz.ntmps49
  go_wp2
  go_loopw [5] (fun i wr => ∃ k q : Nat, k ≤ n ∧ k ≤ n' ∧ i = .int .i64 k ∧ wr = w.drewN q ∧ Hid (L.take k = L'.take k)) (fun i _ => n - (intOf i).toNat)
  case atStart => exact ⟨0, 0, Nat.zero_le _, Nat.zero_le _, rfl, rfl, rfl⟩
  case round =>
    obtain ⟨k, q, hk, hk', rfl, rfl, ht⟩ := hrel
    have hend : ¬ (k < n ∧ k < n') → Hid (lessK L L' = decide (n < n')) := fun hx => Lib.hid (by
      have h1 := HL.out
      have h2 := HL'.out
      have hm : min L.length L'.length = k := by omega
      rw [lessK_pre (by rw [hm]; exact ht.out), h1, h2])
    by_cases hlt : k < n
    · have hd : decide ((k : Int) < (n : Int)) = true := decide_eq_true (by omega)
      by_cases hlt' : k < n'
      · have hd' : decide ((k : Int) < (n' : Int)) = true := decide_eq_true (by omega)
        obtain ⟨b, o, x, rfl, hb, hcx, ex⟩ := hr.at_ hlt
        obtain ⟨b', o', x', rfl, hb', hcx', ex'⟩ := hr'.at_ hlt'
        clear hend
        by_cases hxx : x = x'
        · subst hxx
          have hxn : (x != x) = false := by simp
          have H := Lib.hid (takeI_same (by have := HL.out; omega) (by have := HL'.out; omega) ht.out ex.out ex'.out)
          go_wp2
          go_quiet (fail)
          go_wp2
          go_roundw
          case rel => exact ⟨k + 1, q + nq, by omega, by omega, by go_num, rfl, H⟩
          case measure => simp [intOf]; omega
        · have hxn : (x != x') = true := by simp [hxx]
          have H : Hid (lessK L L' = decide (x < x')) := Lib.hid (by
            have h1 := HL.out
            have h2 := HL'.out
            rw [lessK_at ht.out (by omega) (by omega) (by rw [← ex.out, ← ex'.out]; exact hxx), ← ex.out, ← ex'.out])
          clear hxx
          go_wp2
          go_quiet (fail)
          go_wp2
          go_quiet (fail)
          go_wp2
          go_ret
          exact ⟨bool_of H.out.symm, _, by rw [World.drewN_drewN, World.drewN_drewN]⟩
      · have hd' : decide ((k : Int) < (n' : Int)) = false := decide_eq_false (by omega)
        have H := hend (by omega)
        clear hend
        go_wp2
        go_ret
        exact ⟨bool_of H.out.symm, q, rfl⟩
    · have hd : decide ((k : Int) < (n : Int)) = false := decide_eq_false (by omega)
      have H := hend (by omega)
      clear hend
      go_wp2
      go_ret
      exact ⟨bool_of H.out.symm, q, rfl⟩
end Go.Proofs.YteifhgcjmjihgaaGreat
namespace Go.Proofs.YteifhgcjmjihgaaGreat
set_option maxRecDepth 100000
open Go.RowKit

/-- What the reference's up tells. -/
def TellUp (w : World) (r : Option (List Int)) (e : Ending) (w' : World) : Prop := (match r with
    | none => e = .returned (.tuple #[.slice none 0 0, .bool false])
    | some j => ∃ v, e = .returned (.tuple #[v, .bool true]) ∧ OwnI w' w.heap.size v j) ∧ Below w.heap.size w w'
theorem TellUp.none_ {w w' : World} {e : Ending} (h : TellUp w none e w') : e = .returned (.tuple #[.slice none 0 0, .bool false]) ∧ Below w.heap.size w w' := h
theorem TellUp.some_ {w w' : World} {e : Ending} {j : List Int} (h : TellUp w (some j) e w') : (∃ v, e = .returned (.tuple #[v, .bool true]) ∧ OwnI w' w.heap.size v j) ∧ Below w.heap.size w w' := h
set_option maxRecDepth 100000 in
set_option maxHeartbeats 2000000 in
theorem refUpK_any {w : World} {W n c kc : Nat} {A Ak : Option Addr} {us : List (List Int)} {L : List Int} (hL : HasI w w.heap.size Ak n kc L) (hU : HasL w w.heap.size A W c us) (hk : isKey W L) (hW : W ≤ 3) :
    Calls Tryz.prog 40 #[.slice Ak n kc, .slice A W c] w (TellUp w (upK us L)) := by
  have HL := Lib.hid hL
  have HU := Lib.hid hU
  have HK := Lib.hid hk
  have hn : n = W := by rw [← hL.len]; exact hk.1
  subst hn
  clear hL hU hk
  go_enter Tryz.func40, Tryz.ntmps40
  go_wp2_with fail
  go_loopw [6, 7] (fun v i wr => ∃ (t : Nat) (out : List Int), t ≤ n ∧ i = .int .i64 t ∧ OwnI wr w.heap.size v out ∧ Below w.heap.size w wr ∧ Hid (upTo us L t out) ∧ Hid (out.length = t)) (fun _ i _ => n - (intOf i).toNat)
  case atStart => exact ⟨0, [], Nat.zero_le _, rfl, OwnI.nil_ _ _, Below.refl _ _, Lib.hid (upTo_zero _ _), Lib.hid rfl⟩
  case round =>
    obtain ⟨t, out, ht, rfl, hO, hB, hT, hl⟩ := hrel
    by_cases hlt : t < n
    · have hkt : Hid (∃ cn : Nat, L[t]? = some (cn : Int)) := Lib.hid (by
        have h1 : t < L.length := by rw [HK.out.1]; exact hlt
        have h2 := HK.out.2 _ (List.getElem_mem h1)
        exact ⟨(L[t]).toNat, by rw [List.getElem?_eq_getElem h1]; congr 1; omega⟩)
      obtain ⟨cn, hcn'⟩ := hkt.out
      have hcn := Lib.hid hcn'
      obtain ⟨b, o, x, rfl, hbb, hcx, ex⟩ := (HL.out.below hB (Nat.le_refl _)).at_ hlt
      have hxc : x = (cn : Int) := by rw [ex.out, List.getD_eq_getElem?_getD, hcn.out]; rfl
      subst hxc
      obtain ⟨b', o', A', n', c', u, rfl, hbl, hcell, hI, hu⟩ := (HU.out.below hB (Nat.le_refl _)).at_ (k := t) hlt
      have i0 : (0 : Int) ≤ (t : Int) := by omega
      have i1 : (t : Int) < (n : Int) := by omega
      have hut : Hid (us[t]? = some u) := Lib.hid (by
        have h1 : t < us.length := by rw [HU.out.len]; exact hlt
        rw [hu.out, List.getD_eq_getElem?_getD, List.getElem?_eq_getElem h1]
        rfl)
      clear hcn' hkt ex
      have HBx := Lib.hid fun q => below_drewN hB q
      by_cases hge : (n' : Int) ≤ (cn : Int)
      · have HV : Hid (upK us L = none) := Lib.hid (upTo_no hT.out hcn.out hut.out fun h => by have h2 := hI.len; have h1 := h.1; omega)
        have hge2 : decide ((n' : Int) ≤ (cn : Int)) = true := decide_eq_true hge
        have hge3 : decide (n' ≤ cn) = true := decide_eq_true (by omega)
        clear hge hB hO hI
        go_wp2_with fail
        go_quiet (fail)
        go_wp2_with fail
        go_ret2
        rw [HV.out]
        exact ⟨rfl, HBx.out _⟩
      · have hge2 : decide ((n' : Int) ≤ (cn : Int)) = false := decide_eq_false hge
        have hge3 : decide (n' ≤ cn) = false := decide_eq_false (by omega)
        have hcl : cn < n' := by omega
        obtain ⟨b2, o2, q, rfl, hbl2, hcell2, hq⟩ := hI.at_ hcl
        have i4 : (0 : Int) ≤ (cn : Int) := by omega
        have i5 : (cn : Int) < (n' : Int) := by omega
        have Hn' := Lib.hid hI.len
        have HO := Lib.hid fun j => hO.drewN j
        have hq2 : Hid (u.getD ((cn : Int)).toNat 0 = q) := Lib.hid (by rw [hq.out]; simp)
        clear hge hB hO hI hq
        by_cases hbad : q < 0 ∨ 40 < q
        · have HV : Hid (upK us L = none) := Lib.hid (upTo_no hT.out hcn.out hut.out fun h => by rw [hq2.out] at h; omega)
          by_cases q0 : q < 0
          · have d1 : decide (q < 0) = true := decide_eq_true q0
            clear hbad
            go_wp2_with fail
            go_quiet (fail)
            go_wp2_with fail
            go_quiet (fail)
            go_wp2_with fail
            go_ret2
            rw [HV.out]
            exact ⟨rfl, by first | exact HBx.out _ | (rw [World.drewN_drewN]; exact HBx.out _)⟩
          · have d1 : decide (q < 0) = false := decide_eq_false q0
            have d2 : decide (40 < q) = true := decide_eq_true (by omega)
            clear hbad q0
            go_wp2_with fail
            go_quiet (fail)
            go_wp2_with fail
            go_quiet (fail)
            go_wp2_with fail
            go_ret2
            rw [HV.out]
            exact ⟨rfl, by first | exact HBx.out _ | (rw [World.drewN_drewN]; exact HBx.out _)⟩
        · have d1 : decide (q < 0) = false := decide_eq_false (by omega)
          have d2 : decide (40 < q) = false := decide_eq_false (by omega)
          have HT : Hid (upTo us L (t + 1) (out ++ [q])) := Lib.hid (by
            have h := upTo_step hT.out hcn.out hut.out (by have := Hn'.out; omega) (by rw [hq2.out]; omega) (by rw [hq2.out]; omega)
            rwa [hq2.out] at h)
          have hol : out.length ≤ 1000000 := by have := hl.out; omega
          clear hbad
          go_wp2_with fail
          go_quiet (fail)
          go_wp2_with fail
          go_quiet (fail)
          have HG := Lib.hid fun (j : Nat) (o : Obj) => (show OwnI ((wr.drewN j).alloc o) w.heap.size u6 out ∧ Below w.heap.size w ((wr.drewN j).alloc o) ∧ ∀ q, u6.ownBlock = some q → w.heap.size ≤ q from ⟨(HO.out j).alloc o, (HBx.out j).alloc (HBx.out j).size o, fun q e => ((HO.out j).lt q e).1⟩)
          go_wp2_with (at_builtin; go_loud (refine wpList_appI rfl _ _ rfl w.heap.size _ _ rfl (HG.out _ _).1 _ rfl q (cell_lit _ _ _ _ (by simp)) hol (HG.out _ _).2.1.size ?_); intro v2 w2 hO2 hG2; have hF := Lib.hid (And.intro hO2 ((HG.out _ _).2.1.trans (hG2.below_ (HG.out _ _).2.1.size (HG.out 0 (.cells #[] 0)).2.2))); clear hO2 hG2)
          have hlq : Hid ((out ++ [q]).length = t + 1) := Lib.hid (by have := hl.out; simp; omega)
          go_wp2_with fail
          go_roundw
          case rel => exact ⟨t + 1, out ++ [q], by omega, by go_num, hF.out.1, hF.out.2, HT, hlq⟩
          case measure => simp [intOf]; omega
    · have HV : Hid (upK us L = some out) := Lib.hid (upTo_end (by
        have e : t = L.length := by have := HK.out.1; omega
        rw [← e]; exact hT.out))
      have HF := Lib.hid (And.intro hO hB)
      clear hO hB
      go_wp2_with fail
      go_ret2
      rw [HV.out]
      exact ⟨⟨_, rfl, HF.out.1⟩, HF.out.2⟩
end Go.Proofs.YteifhgcjmjihgaaGreat
