/- Layer 4: the document's answers: sums, parts, ints, order. -/
import Derived.Test.YtbgbchbnidejhaaWideRef
namespace Go.Proofs.Ytbgbchbnidejhaa
open Go.RowKit

set_option maxRecDepth 100000 in
set_option maxHeartbeats 2000000 in
theorem refAdd_any (A B : Option Addr) (c d : Nat) (x y : Int) (w : World) (ha : HasI w w.heap.size A 80 c (bitsOf 80 x)) (hb : HasI w w.heap.size B 80 d (bitsOf 80 y)) :
    Calls Try.prog 46 #[.slice A 80 c, .slice B 80 d] w fun e w' => (∃ v, e = .returned v ∧ OwnI w' w.heap.size v (bitsOf 80 (x + y))) ∧ Below w.heap.size w w' := by
  obtain ⟨i0, hi, hz0, hz1', hz2⟩ := info_parts info_int
  have hc1 := ha.cap
  have hc2 := ha.capMax
  have hd1 := hb.cap
  have hd2 := hb.capMax
  go_enter Try.func46, Try.ntmps46
  go_wp2
  go_loopw [5, 6, 7] (fun v m i wr => ∃ k : Nat, k ≤ 80 ∧ i = .int .i64 k ∧ m = .int .i64 (carr x y k) ∧ OwnI wr w.heap.size v (bitsOf k (x + y)) ∧ Below w.heap.size w wr) (fun _ _ i _ => 80 - (intOf i).toNat)
  case atStart => exact ⟨0, Nat.zero_le _, rfl, by rw [carr_zero], OwnI.nil_ _ _, Below.refl _ _⟩
  case round =>
    obtain ⟨k, hk, rfl, rfl, ho, hbe⟩ := hrel
    by_cases hlt : k < 80
    · obtain ⟨b1, o1, p, rfl, hl1, hp, hpe⟩ := (ha.below hbe (Nat.le_refl _)).at_ hlt
      obtain ⟨b2, o2, q, rfl, hl2, hq, hqe⟩ := (hb.below hbe (Nat.le_refl _)).at_ hlt
      have hs := carr_bit x y k
      have hn := carr_next x y k
      have hm := carr_may x y k
      rw [bitsOf_getD _ _ _ hlt] at hpe hqe
      rw [← hpe.out, ← hqe.out] at hs hn
      obtain ⟨r, hr⟩ : ∃ r, Hid (carr x y k = r) := ⟨_, Lib.hid rfl⟩
      rw [hr.out] at hs hn hm ⊢
      have hpb := bit_may x k
      have hqb := bit_may y k
      rw [← hpe.out] at hpb
      rw [← hqe.out] at hqb
      have hsn := bitsOf_snoc k (x + y)
      rw [← hs] at hsn
      have hsn := Lib.hid hsn
      have hn := Lib.hid hn
      obtain ⟨hp0, hp1⟩ := hpb
      obtain ⟨hq0, hq1⟩ := hqb
      obtain ⟨hm0, hm1⟩ := hm
      have hz := hbe.size
      have hln := Lib.hid (bitsOf_length k (x + y))
      have i0' : (0 : Int) ≤ (k : Int) := by omega
      have i1' : (k : Int) < 80 := by omega
      clear hs hpe hqe
      go_wp2_with fail
      go_quiet (fail)
      have ho1 : OwnI (wr.drewN nq) w.heap.size u5 (bitsOf k (x + y)) := OwnI.drewN ho nq
      have hbe1 : Below w.heap.size w (wr.drewN nq) := below_drewN hbe nq
      generalize wr.drewN nq = w1 at ho1 hbe1 ⊢
      have hz1 := hbe1.size
      have hsum : 0 ≤ p + q + r := by omega
      clear hl1 hl2 hp hq ho hbe hz
      go_wp2_with (at_builtin; refine wpList_append_own _ rfl _ _ 54 rfl w.heap.size 3 i0 (.int .i64 0) 1 8 Try.underlying54 hi hz0 hz1' hz2 rfl (by decide) _ (bitsOf k (x + y)).length ((bitsOf k (x + y)).map i64v) rfl (OwnI.alloc ho1 _) _ 1 1 [i64v ((p + q + r) % 2)] rfl rfl (cell_one_i _ _ _ _ (by simp)) (i64v_one [(p + q + r) % 2]) (by have := hln.out; unfold maxLen; omega) (by have := hln.out; omega) (by simp; omega) ?_)
      intro v2 w2 hown hgrow _
      have ho2 : Hid (OwnI w2 w.heap.size v2 (bitsOf (k + 1) (x + y))) := Lib.hid (by
        unfold OwnI
        rw [hsn.out, List.length_append, List.map_append]
        simpa using hown)
      have hbe2 : Hid (Below w.heap.size w w2) := Lib.hid ((hbe1.alloc hz1 _).grown hgrow (by simp; omega) (fun g h => (OwnI.lt ho1 g h).1))
      clear hown hgrow ho1 hbe1 hsn hln hz1
      go_wp2_with fail
      go_roundw
      case rel => exact ⟨k + 1, by omega, by go_num, by rw [hn.out], ho2.out, hbe2.out⟩
      case measure => simp [intOf]; omega
    · obtain rfl : k = 80 := by omega
      go_wp2_with fail
      go_ret
      exact ⟨⟨_, rfl, ho⟩, hbe⟩

/-- What a row of the call's own of n > 0 ints is. -/
theorem OwnI.shape {w : World} {base : Nat} {v : Value} {l : List Int} (h : OwnI w base v l) {n : Nat} (hl : l.length = n) (hn : 0 < n) : ∃ g c, v = .slice (some ⟨g, 0, none⟩) n c ∧ HasI w w.heap.size (some ⟨g, 0, none⟩) n c l ∧ base ≤ g ∧ g < w.heap.size := by
  subst hl
  rcases h.2 with ⟨rfl, h0⟩ | ⟨g, cap, cur, rfl, hb, hg, hnc, hcm, hcs, ht⟩
  · omega
  · have hlt : g < w.heap.size := (Array.getElem?_eq_some_iff.1 hg).1
    refine ⟨g, cap, rfl, ⟨rfl, hnc, hcm, (fun h => by cases h), fun _ => ⟨g, 0, rfl, hlt, fun j u hu => ?_⟩⟩, hb, hlt⟩
    have := World.ownsRow.cells h (g := g) rfl j u hu
    rwa [add_flat] at this
theorem bits_shape {w : World} {base : Nat} {v : Value} {z : Int} (h : OwnI w base v (bitsOf 80 z)) : ∃ g c, v = .slice (some ⟨g, 0, none⟩) 80 c ∧ HasI w w.heap.size (some ⟨g, 0, none⟩) 80 c (bitsOf 80 z) ∧ base ≤ g ∧ g < w.heap.size := h.shape (bitsOf_length 80 z) (by decide)
/-- Ints that lie somewhere, appended onto a row of the call's own: the cells. -/
theorem HasI.cellsAt {w : World} {B n c g : Nat} {l : List Int} (h : HasI w B (some ⟨g, 0, none⟩) n c l) : ∀ j u, (l.map i64v)[j]? = some u → w.cell? ((⟨g, 0, none⟩ : Addr).add j) = some u := fun j u hu => by
  have hj := (List.getElem?_eq_some_iff.1 hu).1
  obtain ⟨b, o, e, _, hc⟩ := h.has (by omega)
  injection e with e
  injection e with e1 e2
  subst e1 e2
  rw [add_flat]
  exact hc j u hu

end Go.Proofs.Ytbgbchbnidejhaa
