/- Layer 2: the document's examples. -/
import Derived.Test.YteiamhhhiagmpaaWireNew
namespace Go.Proofs.Yteiamhhhiagmpaa
open Go.RowKit

theorem enc_key {u v : Int} {n m : Nat} (h : (if u < 0 then -(u + 1) else u) ≤ (if v < 0 then -(v + 1) else v)) (hn : (enc (zig u)).length = n) (hm : (enc (zig v)).length = m) : n ≤ m := by
  subst hn hm
  apply enc_mono
  rw [zig_half, zig_half]
  omega
theorem tmod_neg {a n : Int} {k : Nat} (h : a ≤ 0) (e : (-a) % n = (k : Int)) : a.tmod n = -(k : Int) := by
  rw [← e, ← Int.tmod_eq_emod_of_nonneg (by omega), Int.neg_tmod, Int.neg_neg]
theorem ex_put : enc (zig (-65)) = [129, 1] := by
  rw [show zig (-65) = 129 from by decide, enc_big (by decide), enc_small (by decide)]
  decide
theorem ex_get : gN [2, 9] = 1 ∧ gK [2, 9] = 1 ∧ gE [2, 9] = 0 := by decide +kernel
theorem ex_cut : gN [128] = 0 ∧ gK [128] = 0 ∧ gE [128] = 3 := by decide +kernel
theorem ex_text : tx [4, 97, 98] 0 0 3 = ([97, 98], 3, 0) := by decide +kernel
theorem lit2 (w : World) : HasB (w.alloc (.cells #[.int .u8 2, .int .u8 9] 5)) (w.heap.size + 1) (some ⟨w.heap.size, 0, none⟩) 2 2 [2, 9] := HasB.litAt w [2, 9] _ rfl _ (0, 0) 2 rfl (by decide) _ rfl
theorem lit1 (w : World) : HasB (w.alloc (.cells #[.int .u8 128] 5)) (w.heap.size + 1) (some ⟨w.heap.size, 0, none⟩) 1 1 [128] := HasB.litAt w [128] _ rfl _ (0, 0) 1 rfl (by decide) _ rfl
theorem lit3 (w : World) : HasB (w.alloc (.cells #[.int .u8 4, .int .u8 97, .int .u8 98] 5)) (w.heap.size + 1) (some ⟨w.heap.size, 0, none⟩) 3 3 [4, 97, 98] := HasB.litAt w [4, 97, 98] _ rfl _ (0, 0) 3 rfl (by decide) _ rfl
set_option maxHeartbeats 2000000 in
theorem lives_any (w : World) :
    Calls Try.prog 11 #[] w fun x w' => x = .returned (.bool true) ∧ Below w.heap.size w w' := by
  go_enter Try.func11, Try.ntmps11
  go_wp2_with fail
  refine (putInt_nil (-65) (by omega) (by omega) _).mono ?_
  rw [ex_put]
  rintro x w1 ⟨v, rfl, ho, hb⟩
  obtain ⟨gb, cb, rfl, hgb, hgl⟩ := ho.formG (by decide)
  have hl2 : ([129, 1] : List UInt8).length = 2 := rfl
  rw [hl2] at ho ⊢
  clear hl2
  have hz := hb.size
  have HL2 := Lib.hid (lit2 w1)
  go_wp2_with fail
  refine (getInt_is HL2.out ex_get.1 ex_get.2.1 ex_get.2.2).mono ?_
  rintro x w2 ⟨rfl, ew2⟩
  have ho2 : OwnB w2 w.heap.size 5 (.slice (some ⟨gb, 0, none⟩) 2 cb) [129, 1] := by rw [← ew2]; exact ho.alloc _
  have hb2 : Below w.heap.size w w2 := by rw [← ew2]; exact hb.alloc hz _
  have hz2 := hb2.size
  clear ew2 HL2 ho hb hz
  have HL1 := Lib.hid (lit1 w2)
  go_wp2_with fail
  refine (getInt_is HL1.out ex_cut.1 ex_cut.2.1 ex_cut.2.2).mono ?_
  rintro x w3 ⟨rfl, ew3⟩
  have ho3 : OwnB w3 w.heap.size 5 (.slice (some ⟨gb, 0, none⟩) 2 cb) [129, 1] := by rw [← ew3]; exact ho2.alloc _
  have hb3 : Below w.heap.size w w3 := by rw [← ew3]; exact hb2.alloc hz2 _
  have hz3 := hb3.size
  clear ew3 HL1 ho2 hb2 hz2 hgl
  have HL3 := Lib.hid (lit3 w3)
  go_wp2_with fail
  refine (new_any _ _ _ _ _ (HL3.out.more (by simp)) (by decide)).mono ?_
  rintro x w4 ⟨g, A', c', rfl, hr, hg, hb4⟩
  have ho4 := (ho3.alloc (.cells #[.int .u8 4, .int .u8 97, .int .u8 98] 5)).below hb4 (Nat.le_refl _)
  have hbb : Below w.heap.size w w4 := (hb3.alloc hz3 _).trans (hb4.mono (by simp; omega))
  have hgz : gb < w3.heap.size := by have := (ho3.lt gb rfl).2; exact this
  have hgg : g ≠ gb := by simp at hg; omega
  have hgw : w.heap.size ≤ g := by simp at hg; omega
  clear ho3 hb3 hz3 HL3 hb4 hgz hg
  go_wp2_with fail
  refine (text_any _ _ _ _ _ _ _ _ hr 3).mono ?_
  rw [ex_text]
  rintro x w5 ⟨rfl, hr5, hg5⟩
  have ho5 := ho4.kept hg5 (.inr (fun e => by injection e with e; exact hgg e.symm))
  have hb5 : Below w.heap.size w w5 := hbb.grown hg5 hbb.size (fun k hk => by injection hk with hk; subst hk; exact hgw)
  have hc0 : w5.cell? ⟨gb, 0, none⟩ = some (.int .u8 129) := ho5.cell_ 0 (by decide)
  have hc1 : w5.cell? ⟨gb, 1, none⟩ = some (.int .u8 1) := ho5.cell_ 1 (by decide)
  have hcap : (2 : Nat) ≤ cb := by
    obtain ⟨A, n, c, e, h, _⟩ := ho5.formN
    injection e with _ e2 e3
    subst e2 e3
    exact h.cap
  clear ho4 hbb hg5 hr ho5
  go_wp2_with fail
  refine (end_any _ _ _ _ _ _ _ _ hr5).mono ?_
  rw [show endE 3 3 0 = 0 from rfl]
  rintro x w6 ⟨rfl, k6, rfl⟩
  have hr6 := hr5.drewN k6
  clear hr5
  go_wp2_with fail
  refine (at_any _ _ _ _ _ _ _ _ hr6).mono ?_
  rintro x w7 ⟨rfl, rfl⟩
  go_wp2_with fail
  go_ret
  exact ⟨rfl, below_drewN hb5 _⟩
end Go.Proofs.Yteiamhhhiagmpaa
