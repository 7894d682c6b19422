/- NamesJ -/
import Derived.Test.YtmcccpbpijnbmaaJ25
import Derived.Lib.Join
namespace Go.Proofs.Ytmcccpbpijnbmaa
set_option maxRecDepth 100000
open Go.RowKit

theorem may_yes {A : Option Addr} {n c : Nat} {L : List Txt} {w : World} (h : HasT w w.heap.size A n c L) (hm : mayP L) :
  Calls Try.prog 65 #[.slice A n c] w fun e w' => e = .returned (.bool true) ∧ Below w.heap.size w w' := by
 have := may_any h
 rwa [decide_eq_true hm] at this
/-! ### Text -/
theorem joinT_join : ∀ {L : List Txt}, L ≠ [] → Lib.join L [47] = joinT L := by
 intro L
 induction L with
 | nil => intro h; exact absurd rfl h
 | cons a p ih =>
  intro _
  by_cases hp : p = []
  ·subst hp
   simp [Lib.join, joinT, List.intercalate]
  ·rw [joinT_cons a hp, ← ih hp]
   cases p with
   | nil => exact absurd rfl hp
   | cons b q => simp [Lib.join, List.intercalate]
theorem joinT_length : ∀ {L : List Txt}, (∀ s ∈ L, s.length ≤ 12) → (joinT L).length ≤ 13 * L.length := by
 intro L
 induction L with
 | nil => intro _; simp [joinT]
 | cons a p ih =>
  intro h
  have h1 := h a (by simp)
  have h2 := ih fun s hs => h s (List.mem_cons_of_mem _ hs)
  by_cases hp : p = []
  ·subst hp
   simp [joinT]; omega
  ·rw [joinT_cons a hp]
   simp; omega
theorem mayP_join {L : List Txt} (h : mayP L) : (joinT L).length ≤ 39 := by
 have h1 := joinT_length (L := L) fun s hs => (h.2 s hs).2.1
 have h2 := h.1
 omega
theorem join_any {A : Option Addr} {n c : Nat} {L : List Txt} {w : World} (h : HasT w w.heap.size A n c L) (hn : L ≠ []) (hm : mayP L) :
  Calls Try.prog 66 #[.slice A n c, .string ⟨#[47]⟩] w fun e w' => e = .returned (.string ⟨(joinT L).toArray⟩) ∧ Below w.heap.size w w' := by
 have hl := h.len
 have hpos : 0 < L.length := List.length_pos_iff.2 hn
 obtain ⟨b, o, rfl, hb, hc⟩ := h.has (by simpa using hpos)
 have e1 : (L.map fun x => (⟨x.toArray⟩ : ByteArray)).map (·.data.toList) = L := by rw [List.map_map]; exact (List.map_congr_left fun u _ => rfl).trans (List.map_id L)
 have hj : Lib.join ((L.map fun x => (⟨x.toArray⟩ : ByteArray)).map (·.data.toList)) (⟨#[47]⟩ : ByteArray).data.toList = joinT L := by rw [e1]; exact joinT_join hn
 have h39 := mayP_join hm
 have hcap := h.cap
 have hcm := h.fit
 unfold maxLen at hcm
 have := Try.strings_Join b o c (L.map fun x => (⟨x.toArray⟩ : ByteArray)) ⟨#[47]⟩ w (fun j x hx => hc j (.string x) (by
  rw [List.getElem?_map] at hx ⊢
  rcases hlj : L[j]? with _ | y
  ·rw [hlj] at hx; cases hx
  ·rw [hlj] at hx
   simp only [Option.map_some, Option.some.injEq] at hx ⊢
   rw [← hx]; rfl)) hb (by have := hm.1; simp; omega) (by simp; omega) (by rw [hj]; omega)
 rw [hj] at this
 simpa [hl] using this
theorem textP_ne {L : List Txt} (h : L ≠ []) : textP L = joinT L := by unfold textP; rw [if_neg h]

set_option maxRecDepth 100000 in
set_option maxHeartbeats 1000000 in
theorem text_yes {A : Option Addr} {n c : Nat} {L : List Txt} {w : World} (h : HasT w w.heap.size A n c L) (hm : mayP L) :
  Calls Try.prog 57 #[.slice A n c] w fun e w' => e = .returned (.tuple #[.string ⟨(textP L).toArray⟩, .int .i64 0]) ∧ Below w.heap.size w w' := by
 have hl := h.len
 by_cases hn : L = []
 ·subst hn
  obtain rfl : n = 0 := by simpa using hl.symm
  clear hl
  have HM := Lib.hid hm
  clear hm
  go_enter Try.func57, Try.ntmps57
  go_wp2_with fail
  refine (may_yes h HM.out).mono ?_
  rintro e v ⟨rfl, hb1⟩
  go_wp2_with fail
  go_ret2
  exact ⟨rfl, hb1⟩
 ·have hpos : 0 < n := by have := List.length_pos_iff.2 hn; omega
  have hn0 : ((n : Int) == 0) = false := by rw [beq_eq_false_iff_ne]; omega
  have HN := Lib.hid (textP_ne hn)
  have HJ := Lib.hid (fun (v : World) (hv : HasT v v.heap.size A n c L) => join_any hv hn hm)
  have HM := Lib.hid hm
  clear hl hm hn
  go_enter Try.func57, Try.ntmps57
  go_wp2_with fail
  refine (may_yes h HM.out).mono ?_
  rintro e v ⟨rfl, hb1⟩
  have hv := h.belowS hb1
  clear h
  go_wp2_with fail
  refine (HJ.out v hv).mono ?_
  rintro e v2 ⟨rfl, hb2⟩
  have HB := hb1.trans (hb2.mono hb1.size)
  go_wp2_with fail
  go_ret2
  exact ⟨by rw [HN.out]; rfl, HB⟩
end Go.Proofs.Ytmcccpbpijnbmaa
