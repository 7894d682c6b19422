/- NamesR -/
import Derived.Test.YtfddaegepmdohaaGreatDoorJ25
import Derived.Test.YtfddaegepmdohaaGreatDoorJ40
namespace Go.Proofs.YtfddaegepmdohaaGreatDoor
set_option maxRecDepth 100000
open Go.RowKit

theorem refMay_yes {A : Option Addr} {n c B : Nat} {L : List Txt} {w : World} (h : HasT w B A n c L) (hm : mayP L) :
    Calls Tryz.prog 43 #[.slice A n c] w fun e w' => e = .returned (.bool true) ∧ w = w' := by
  have := refMay_any h
  rwa [decide_eq_true hm] at this
theorem refMay_no {A : Option Addr} {n c B : Nat} {L : List Txt} {w : World} (h : HasT w B A n c L) (hm : ¬ mayP L) :
    Calls Tryz.prog 43 #[.slice A n c] w fun e w' => e = .returned (.bool false) ∧ w = w' := by
  have := refMay_any h
  rwa [decide_eq_false hm] at this

/-! ### Text -/
theorem joinT_snoc : ∀ {L : List Txt} (x : Txt), L ≠ [] → joinT (L ++ [x]) = (joinT L ++ [47]) ++ x := by
  intro L
  induction L with
  | nil => intro x h; exact absurd rfl h
  | cons a p ih =>
    intro x _
    by_cases hp : p = []
    · subst hp
      simp [joinT]
    · rw [List.cons_append, joinT_cons a (by simp), joinT_cons a hp, ih x hp]
      simp
theorem join_first {L : List Txt} {x : Txt} (h : 0 < L.length) (hx : x = L.getD 0 []) : joinT (L.take (0 + 1)) = x := by
  rw [← takeT_snoc h hx]
  rfl
theorem join_next {L : List Txt} {k : Nat} {x t : Txt} (h : k < L.length) (h0 : 0 < k) (hx : x = L.getD k []) (ht : t = joinT (L.take k)) : joinT (L.take (k + 1)) = (t ++ [47]) ++ x := by
  rw [← takeT_snoc h hx, joinT_snoc x (by
    intro e
    have h1 : (L.take k).length = 0 := by rw [e]; rfl
    rw [List.length_take] at h1
    omega), ht]
theorem empty_app (x : Txt) : (⟨#[]⟩ : ByteArray) ++ ⟨x.toArray⟩ = ⟨x.toArray⟩ := ByteArray.mk_append_mk [] x
theorem mem_getD {L : List Txt} {k : Nat} {x : Txt} (h : k < L.length) (hx : x = L.getD k []) : x ∈ L := by
  rw [hx, List.getD_eq_getElem?_getD, List.getElem?_eq_getElem h]
  exact List.getElem_mem h

/-! ### Path -/
/-- At place k, what stands behind f not yet taken, P taken. -/
def InvR (l : Txt) (k f : Nat) (P : List Txt) : Prop := if k ≤ l.length then (47 : UInt8) ∉ (l.drop f).take (k - f) ∧ splitT l = P ++ splitT (l.drop f) else splitT l = P
theorem InvR.start (l : Txt) : InvR l 0 0 [] := by
  unfold InvR
  rw [if_pos (Nat.zero_le _)]
  simp
theorem drop_at {l : Txt} {k : Nat} {b : UInt8} (hk : k < l.length) (hb : l[k]'hk = b) : l.drop k = b :: l.drop (k + 1) := by
  rw [List.drop_eq_getElem_cons hk, hb]
theorem cut_at {l : Txt} {k f : Nat} {b : UInt8} (hk : k < l.length) (hf : f ≤ k) (hb : l[k]'hk = b) : l.drop f = (l.drop f).take (k - f) ++ b :: l.drop (k + 1) := by
  have h := List.take_append_drop (k - f) (l.drop f)
  rw [List.drop_drop, show f + (k - f) = k by omega, drop_at hk hb] at h
  exact h.symm
theorem take_more {l : Txt} {k f : Nat} {b : UInt8} (hk : k < l.length) (hf : f ≤ k) (hb : l[k]'hk = b) : (l.drop f).take (k + 1 - f) = (l.drop f).take (k - f) ++ [b] := by
  rw [show k + 1 - f = k - f + 1 by omega, List.take_succ_eq_append_getElem (by rw [List.length_drop]; omega)]
  congr 2
  rw [List.getElem_drop]
  simp only [show f + (k - f) = k by omega]
  exact hb
theorem InvR.go {l : Txt} {k f : Nat} {P : List Txt} (h : InvR l k f P) (hk : k < l.length) (hf : f ≤ k) {b : UInt8} (hb : l[k]'hk = b) (hne : ¬ b = 47) : InvR l (k + 1) f P := by
  unfold InvR at h ⊢
  rw [if_pos (by omega)] at h ⊢
  refine ⟨?_, h.2⟩
  rw [take_more hk hf hb]
  intro hm
  rcases List.mem_append.1 hm with hm | hm
  · exact h.1 hm
  · exact hne (List.mem_singleton.1 hm).symm
theorem InvR.cut {l : Txt} {k f : Nat} {P : List Txt} (h : InvR l k f P) (hk : k < l.length) (hf : f ≤ k) (hb : l[k]'hk = 47) : InvR l (k + 1) (k + 1) (P ++ [(l.drop f).take (k - f)]) := by
  unfold InvR at h ⊢
  rw [if_pos (by omega)] at h ⊢
  refine ⟨by simp, ?_⟩
  have h2 := h.2
  rw [cut_at hk hf hb, splitT_app h.1] at h2
  simpa using h2
theorem InvR.last {l : Txt} {f : Nat} {P : List Txt} (h : InvR l l.length f P) : InvR l (l.length + 1) (l.length + 1) (P ++ [(l.drop f).take (l.length - f)]) := by
  unfold InvR at h ⊢
  rw [if_pos (Nat.le_refl _)] at h
  rw [if_neg (by omega)]
  have e : (l.drop f).take (l.length - f) = l.drop f := List.take_of_length_le (by simp)
  rw [e] at h ⊢
  rw [h.2, splitT_name h.1]
theorem InvR.many {l : Txt} {k f : Nat} {P : List Txt} (h : InvR l k f P) (hk : k ≤ l.length) (h3 : 3 < P.length) : ¬ mayP (splitT l) := by
  unfold InvR at h
  rw [if_pos hk] at h
  intro hm
  have := hm.1
  rw [h.2] at this
  simp at this
  omega
theorem InvR.done {l : Txt} {k f : Nat} {P : List Txt} (h : InvR l k f P) (hk : ¬ k ≤ l.length) : P = splitT l := by
  unfold InvR at h
  rw [if_neg hk] at h
  exact h.symm
theorem extract_txt (s : ByteArray) (f k : Nat) : s.extract f k = ⟨((s.data.toList.drop f).take (k - f)).toArray⟩ := by
  have h : (s.extract f k).data.toList = (s.data.toList.drop f).take (k - f) := Lib.extract_data s f k
  rw [← h]

set_option maxRecDepth 100000 in
set_option maxHeartbeats 2000000 in
/-- The reference's Path. -/
theorem refPathS_any (s : ByteArray) (w : World) (hs : s.size ≤ 1000000) : Calls Tryz.prog 27 #[.string s] w fun e w' => TellP w (pathP s.data.toList) e w' := by
  by_cases h0 : s.data.toList = [42]
  · have HP := Lib.hid (pathP_star h0)
    have h1 : (s.toList == [42]) = true := by rw [ByteArray.toList_eq, h0]; rfl
    clear h0
    go_enter Tryz.func27, Tryz.ntmps27
    go_wp2
    go_ret2
    rw [HP.out]
    exact ⟨⟨none, 0, 0, rfl, HasT.none_ _ _, fun _ h => by cases h⟩, Below.refl _ _⟩
  · have h1 : (s.toList == [42]) = false := by rw [ByteArray.toList_eq, beq_eq_false_iff_ne]; exact h0
    have HSZ : Hid (s.data.toList.length = s.size) := Lib.hid (by simp)
    have H0 := Lib.hid h0
    clear h0
    go_enter Tryz.func27, Tryz.ntmps27
    go_wp2
    clear h1
    go_loopw [4, 5, 6] (fun v f i wr => ∃ (k f' : Nat) (P : List Txt), k ≤ s.size + 1 ∧ f' ≤ k ∧ P.length ≤ 4 ∧ i = .int .i64 k ∧ f = .int .i64 f' ∧ OwnT wr w.heap.size v P ∧ Below w.heap.size w wr ∧ Hid (InvR s.data.toList k f' P)) (fun _ _ i _ => s.size + 1 - (intOf i).toNat)
    case atStart => exact ⟨0, 0, [], Nat.zero_le _, Nat.zero_le _, Nat.zero_le _, rfl, rfl, OwnT.nil_ w _, Below.refl _ _, Lib.hid (InvR.start _)⟩
    case round =>
      obtain ⟨k, f, P, hk, hf, hP4, rfl, rfl, hO, hB, hI⟩ := hrel
      have hz := hB.size
      by_cases hlt : k ≤ s.size
      · -- whether here a name ends, and the rest of the round where it does
        have fin : (k = s.size ∨ ∃ h : k < s.size, s[k]'h = 47) → InvR s.data.toList (k + 1) (k + 1) (P ++ [(s.data.toList.drop f).take (k - f)]) := by
          rintro (rfl | ⟨h, hb⟩)
          · have := hI.out
            have e := HSZ.out
            rw [← e] at this ⊢
            exact this.last
          · exact hI.out.cut (by have := HSZ.out; omega) hf (by rw [getElem_data s h]; exact hb)
        by_cases hend : k = s.size ∨ ∃ h : k < s.size, s[k]'h = 47
        · have HF := Lib.hid (fin hend)
          clear fin
          by_cases h4 : 3 < P.length
          · have HM := Lib.hid (pathP_no H0.out (hI.out.many (by have := HSZ.out; omega) h4))
            obtain ⟨A, c, rfl, hv, _⟩ := hO.form
            rcases hend with hend | ⟨h, hb⟩
            · have g1 : ((k : Int) == (s.size : Int)) = true := by rw [beq_iff_eq]; omega
              clear hend
              go_wp2
              go_ret2
              rw [HM.out]
              exact ⟨rfl, hB⟩
            · have g1 : ((k : Int) == (s.size : Int)) = false := by rw [beq_eq_false_iff_ne]; omega
              have g2 : (((s[k]'h).toNat : Int) == 47) = true := by rw [hb]; rfl
              clear hb
              go_wp2
              go_ret2
              rw [HM.out]
              exact ⟨rfl, hB⟩
          · obtain ⟨A, c, rfl, hv, _⟩ := hO.form
            have hlo := fun g e => (hO.lt g e).1
            have HX := Lib.hid (extract_txt s f k)
            have hlb : P.length ≤ 1000000 := by omega
            have hO1 := hO.alloc (.cells #[.string (s.extract f k)] 9)
            have hB1 := hB.alloc hz (.cells #[.string (s.extract f k)] 9)
            have HY : Hid ((wr.alloc (.cells #[.string (s.extract f k)] 9)).cell? ⟨wr.heap.size, 0, none⟩ = some (strV ((s.data.toList.drop f).take (k - f)))) := Lib.hid (by rw [cell_litT _ _ _ _ rfl, HX.out]; rfl)
            clear hv
            rcases hend with hend | ⟨h, hb⟩
            · have g1 : ((k : Int) == (s.size : Int)) = true := by rw [beq_iff_eq]; omega
              have g3 : k ≤ s.size := by omega
              clear hend
              go_wp2_with (at_builtin; refine wpList_appT rfl _ _ rfl w.heap.size _ P rfl hO1 _ rfl _ HY.out hlb (by rw [World.size_alloc]; omega) ?_)
              intro v' w2 hO2 hG2
              have hB2 := Lib.hid (hB1.trans (hG2.below_ (by rw [World.size_alloc]; omega) hlo))
              have hO3 := Lib.hid hO2
              clear hO hO1 hO2 hG2 hlo hB hB1 HY
              go_wp2_with fail
              go_roundw
              case rel => exact ⟨k + 1, k + 1, _, by omega, by omega, by simp; omega, by go_num, by go_num, hO3.out, hB2.out, HF⟩
              case measure => simp [intOf]; omega
            · have g1 : ((k : Int) == (s.size : Int)) = false := by rw [beq_eq_false_iff_ne]; omega
              have g2 : (((s[k]'h).toNat : Int) == 47) = true := by rw [hb]; rfl
              clear hb
              go_wp2_with (at_builtin; refine wpList_appT rfl _ _ rfl w.heap.size _ P rfl hO1 _ rfl _ HY.out hlb (by rw [World.size_alloc]; omega) ?_)
              intro v' w2 hO2 hG2
              have hB2 := Lib.hid (hB1.trans (hG2.below_ (by rw [World.size_alloc]; omega) hlo))
              have hO3 := Lib.hid hO2
              clear hO hO1 hO2 hG2 hlo hB hB1 HY
              go_wp2_with fail
              go_roundw
              case rel => exact ⟨k + 1, k + 1, _, by omega, by omega, by simp; omega, by go_num, by go_num, hO3.out, hB2.out, HF⟩
              case measure => simp [intOf]; omega
        · clear fin
          have hlt2 : k < s.size := by
            rcases Nat.lt_or_ge k s.size with h | h
            · exact h
            · exact absurd (.inl (by omega)) hend
          have hb : ¬ s[k]'hlt2 = 47 := fun e => hend (.inr ⟨hlt2, e⟩)
          have HF := Lib.hid (hI.out.go (by have := HSZ.out; omega) hf (getElem_data s hlt2) hb)
          have g1 : ((k : Int) == (s.size : Int)) = false := by rw [beq_eq_false_iff_ne]; omega
          have g2 : (((s[k]'hlt2).toNat : Int) == 47) = false := by
            rw [beq_eq_false_iff_ne]
            intro e
            exact hb (UInt8.toNat_inj.1 (by have : (47 : UInt8).toNat = 47 := rfl; omega))
          clear hb hend
          go_wp2
          go_roundw
          case rel => exact ⟨k + 1, f, P, by omega, by omega, hP4, by go_num, rfl, hO, hB, HF⟩
          case measure => simp [intOf]; omega
      · have HD := Lib.hid (hI.out.done (by have := HSZ.out; omega))
        obtain ⟨A, n, c, rfl, hv, hfr⟩ := hO.formN
        rw [HD.out] at hv
        clear hO
        by_cases hm : mayP (splitT s.data.toList)
        · have HP := Lib.hid (pathP_yes H0.out hm)
          have HM := Lib.hid hm
          clear hm
          go_wp2_with fail
          refine (refMay_yes hv HM.out).mono ?_
          rintro e v ⟨rfl, rfl⟩
          go_wp2_with fail
          go_ret2
          rw [HP.out]
          exact ⟨⟨A, n, c, rfl, hv, hfr⟩, hB⟩
        · have HP := Lib.hid (pathP_no H0.out hm)
          have HM := Lib.hid hm
          clear hm
          go_wp2_with fail
          refine (refMay_no hv HM.out).mono ?_
          rintro e v ⟨rfl, rfl⟩
          go_wp2_with fail
          go_ret2
          rw [HP.out]
          exact ⟨rfl, hB⟩
theorem refPath_any (x : Txt) (w : World) (hs : x.length ≤ 1000000) : Calls Tryz.prog 27 #[.string ⟨x.toArray⟩] w fun e w' => TellP w (pathP x) e w' := by
  have := refPathS_any ⟨x.toArray⟩ w (by simpa [ByteArray.size] using hs)
  simpa using this
end Go.Proofs.YtfddaegepmdohaaGreatDoor
