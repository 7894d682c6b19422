/- Layer 7: the reference's Put. -/
import Derived.Test.YtccdjjpkcahgfaaDictR
import Derived.Test.YtccdjjpkcahgfaaDictW
namespace Go.Proofs.Ytccdjjpkcahgfaa
open Go.RowKit

theorem last_is {q : Pth} {j : Nat} (h : q.length = j + 1) : q.getLastD [] = q.getD j [] := by
  have := last_take (q := q) (k := j) (by omega)
  rwa [List.take_of_length_le (by omega)] at this
theorem drop_is {q : Pth} {j : Nat} (h : q.length = j + 1) : q.dropLast = q.take j := by
  rw [List.dropLast_eq_take, h, Nat.add_sub_cancel]
set_option maxRecDepth 100000 in
set_option maxHeartbeats 2000000 in
/-- The reference's Put. -/
theorem refDput_any {w : World} {base r n : Nat} {Lv : Value} {Q : List Pth} (h : Rf w base r n Lv Q) {A : Option Addr} {m c : Nat} {l : List UInt8} (hb : HasB w w.heap.size A m c l) (hm : m ≤ 100000) :
    Calls Try.prog 37 #[.pointer (some ⟨r, 0, none⟩), .slice A m c] w fun e w' => ∃ v, e = .returned v ∧ OwnB w' w.heap.size 5 v (l ++ encD Q) ∧ Below w.heap.size w w' := by
  obtain ⟨A2, cap, rfl, hT⟩ := h.row.form
  have hc1 := h.c1
  have hcap := hT.cap
  have hQ := h.good.size
  have hrl := h.block.lt
  have hgood := Lib.hid h.good
  have hz := zig_lt (n := (Q.length : Int)) (by omega) (by omega)
  have hten := Lib.hid (enc_ten hz)
  have HL := Lib.hid hb.len
  have K : Hid (∀ y, Below w.heap.size w y → y.cell? ⟨r, 1, none⟩ = some (.slice A2 Q.length cap) ∧ Rf y base r n (.slice A2 Q.length cap) Q ∧ HasTs y A2 Q.length cap Q) := Lib.hid fun y hy => ⟨(hy.cell (p := ⟨r, 1, none⟩) hrl).trans hc1, h.below hy, by
    obtain ⟨A3, c3, e, h3⟩ := (h.below hy).row.form
    injection e with e1 e2 e3
    subst e1 e3
    exact h3⟩
  have hp := refPutInt_any hb (Q.length : Int) (by omega) (by omega) (by omega)
  clear hz hT h
  go_enter Try.func37, Try.ntmps37
  go_wp2_with fail
  refine hp.mono ?_
  rintro e w1 ⟨v1, rfl, hO1, hB1⟩
  have HO1 := Lib.hid hO1
  clear hp hO1
  go_wp2_with fail
  go_loopw [5, 6] (fun v i wr => ∃ k : Nat, k ≤ Q.length ∧ i = .int .i64 k ∧ OwnB wr w.heap.size 5 v (l ++ enc (zig (Q.length : Int)) ++ ((ents Q).take k).flatMap encE) ∧ Below w.heap.size w wr ∧ Hid ((((ents Q).take k).flatMap encE).length ≤ 32 * k)) (fun _ i _ => Q.length - (intOf i).toNat)
  case atStart => exact ⟨0, Nat.zero_le _, rfl, by simpa using HO1.out, hB1, Lib.hid (by simp)⟩
  case round =>
    obtain ⟨k, hk, rfl, hO, hB, hle⟩ := hrel
    obtain ⟨c1, hRf, hTs⟩ := K.out wr hB
    by_cases hlt : k < Q.length
    · obtain ⟨q, hq⟩ : ∃ q, Hid (Q[k]? = some q) := ⟨_, Lib.hid (List.getElem?_eq_getElem hlt)⟩
      obtain ⟨b, o, A', n', c', rfl, hb1, hc0, hTq⟩ := hTs.has k q hq.out
      have hqm := List.mem_of_getElem? hq.out
      obtain ⟨j, rfl⟩ : ∃ j, n' = j + 1 := ⟨n' - 1, by have := (hgood.out.one q hqm).1; have := hTq.len; omega⟩
      obtain ⟨b2, o2, s, rfl, hb2, hcs, hs⟩ := hTq.at_ (k := j) (by omega)
      obtain ⟨a, ha⟩ : ∃ a, Hid (fnd Q (q.take j) = a) := ⟨_, Lib.hid rfl⟩
      have hent : Hid ((ents Q)[k]? = some (a, s)) := Lib.hid (by rw [ents_get hq.out, drop_is hTq.len, ha.out, last_is hTq.len, hs.out])
      obtain ⟨ha40, hs12⟩ := hgood.out.ent_bd hent.out
      have hcapq := hTq.cap
      have hf := refFind_any hRf (hTq.take_ j (by omega)) ha
      have hft := Lib.hid (flat_take encE hent.out)
      have hel := Lib.hid (encE_len (e := (a, s)) (by omega) hs12)
      have Hle2 : Hid ((((ents Q).take (k + 1)).flatMap encE).length ≤ 32 * (k + 1)) := Lib.hid (by rw [hft.out, List.length_append]; have := hle.out; have := hel.out; omega)
      have Hll : Hid ((l ++ enc (zig (Q.length : Int)) ++ ((ents Q).take k).flatMap encE).length ≤ 200000) := Lib.hid (by
        simp only [List.length_append]
        have h1 := hle.out; have h2 := hten.out; have h3 := HL.out
        omega)
      obtain ⟨A3, n3, c3, rfl, hv3, _⟩ := hO.formN
      have hn3 : n3 ≤ 200000 := by rw [← hv3.len]; exact Hll.out
      have hk0 : (0 : Int) ≤ (k : Int) := by omega
      have hk1 : (k : Int) < (Q.length : Int) := by omega
      have hj5 : j ≤ 3 := by have h1 := (hgood.out.one q hqm).2; have h2 := hgood.out.lv.2; have := hTq.len; omega
      have hj1 : (j : Int) + 1 - 1 = (j : Int) := by omega
      have hj2 : (0 : Int) ≤ (j : Int) := by omega
      have hj3 : (j : Int) ≤ (c' : Int) := by omega
      have hj4 : (j : Int) < (j : Int) + 1 := by omega
      have HS : Hid (s.length ≤ 12) := Lib.hid hs12
      have Hbs := hB.size
      have hcs2 : wr.cell? ⟨b2, o2 + j, none⟩ = some (.string ⟨s.toArray⟩) := hcs
      have hbl : Hid (b2 < wr.heap.size) := Lib.hid hb2
      have Hv3 := Lib.hid hv3
      clear hqm hTs hTq hRf hcs hle hO hv3 hlt
      go_wp2_with fail
      refine hf.mono ?_
      rintro e w2 ⟨rfl, jj, rfl⟩
      go_wp2_with fail
      refine (refPutInt_any (w := wr.drewN jj) (Hv3.out.drewN jj) (a : Int) (by omega) (by omega) (by omega)).mono ?_
      rintro e w3 ⟨v4, rfl, hO4, hB4⟩
      have hB4' : Below wr.heap.size wr w3 := (below_drewN (Below.refl _ wr) jj).trans hB4
      have hcs3 := (hB4'.cell (p := ⟨b2, o2 + j, none⟩) hbl.out).trans hcs2
      have h10 := enc_ten (zig_lt (n := (a : Int)) (by omega) (by omega))
      obtain ⟨A4, n4, c4, rfl, hv4, _⟩ := hO4.formN
      have hn4 : n4 + s.length + 10 ≤ 1000000000 := by
        have h1 := hv4.len
        have h2 := Hll.out
        have h3 := HS.out
        rw [List.length_append] at h1
        omega
      have Hv4 := Lib.hid hv4
      have hbs3 := Nat.le_trans Hbs hB4'.size
      have hB5 := hB.trans (hB4'.mono Hbs)
      clear hO4 hB4 hv4 h10 hB
      go_wp2_with fail
      refine (refPutText_any Hv4.out s hn4).mono ?_
      rintro e w5 ⟨v6, rfl, hO6, hB6⟩
      have hF := Lib.hid (show OwnB w5 w.heap.size 5 v6 (l ++ enc (zig (Q.length : Int)) ++ ((ents Q).take (k + 1)).flatMap encE) ∧ Below w.heap.size w w5 from ⟨by
        rw [hft.out]
        have := hO6.low hbs3
        simpa only [encE, List.append_assoc] using this, hB5.trans (hB6.mono hbs3)⟩)
      clear hO6 hB6 hB5
      go_wp2_with fail
      go_roundw
      case rel => exact ⟨k + 1, by omega, by go_num, hF.out.1, hF.out.2, Hle2⟩
      case measure => simp [intOf]; omega
    · have hke : Hid (((ents Q).take k).flatMap encE = (ents Q).flatMap encE) := Lib.hid (by rw [List.take_of_length_le (by rw [ents_len]; omega)])
      go_wp2_with fail
      go_ret
      exact ⟨_, rfl, by rw [hke.out, List.append_assoc] at hO; exact hO, hB⟩
end Go.Proofs.Ytccdjjpkcahgfaa
