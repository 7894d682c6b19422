/- Layer 3: what is told is written over. -/
import Derived.Test.YtpegmingmcedmaaFramePut
import Derived.Test.YtpegmingmcedmaaFrameRow
import Derived.OneCell
namespace Go.Proofs.Ytpegmingmcedmaa
open Go.RowKit

/-- Put, whatever it answers: it is new. -/
theorem put_new (A : Option Addr) (n c : Nat) (l : List UInt8) (k : Int) (A' : Option Addr) (n' c' : Nat) (body : List UInt8) (w : World) (hr : HasB w w.heap.size A n c l) (hr' : HasB w w.heap.size A' n' c' body) (hn : n ≤ 1000000) :
    Calls Try.prog 10 #[.slice A n c, .int .i64 k, .slice A' n' c'] w fun e w' => ∃ v x y, e = .returned (.tuple #[v, .int .i64 y]) ∧ OwnB w' w.heap.size 5 v x ∧ Below w.heap.size w w' := by
  by_cases h : 0 ≤ k ∧ k ≤ 255 ∧ n' ≤ 65536
  · obtain ⟨h0, h1, h2⟩ := h
    obtain ⟨q, rfl⟩ := Int.eq_ofNat_of_zero_le h0
    refine (put_any A n c l q A' n' c' body w hr hr' hn (by omega) h2).mono ?_
    rintro e w' ⟨⟨v, rfl, ho⟩, hb⟩
    exact ⟨v, _, _, rfl, ho, hb⟩
  · refine (put_no A n c k A' n' c' w hr'.lenMax (by omega)).mono ?_
    rintro e w' ⟨rfl, rfl⟩
    exact ⟨_, [], _, rfl, OwnB.nil_ _ _ _, Below.refl _ _⟩

/-- Some row of bytes of the call's own. -/
def Some8 (w : World) (B : Nat) (c : Value) : Prop := ∃ l, OwnB w B 5 c l
theorem Some8.set_ {w : World} {B : Nat} {c : Value} (h : Some8 w B c) (g k : Nat) (u : UInt8) : Some8 (w.setCell ⟨g, k, none⟩ (byt u)) B c := by
  obtain ⟨l, h⟩ := h
  by_cases hg : c.ownBlock = some g
  · rcases h.2 with ⟨rfl, h0⟩ | ⟨g', cap, cur, rfl, _⟩
    · simp [Value.ownBlock] at hg
    · simp only [Value.ownBlock, Option.some.injEq] at hg
      subst hg
      exact ⟨_, OwnB.set_ h k u⟩
  · exact ⟨l, ownsRow_setCell_other h (a := ⟨g, k, none⟩) hg _⟩
/-- What is known of it: its cells can be written. -/
theorem Some8.form {w : World} {B : Nat} {c : Value} (h : Some8 w B c) : ∃ A n cap, c = .slice A n cap ∧ n ≤ 9223372036854775807 ∧ ∀ k, k < n → ∃ g q, A = some ⟨g, 0, none⟩ ∧ B ≤ g ∧ w.cell? ⟨g, k, none⟩ = some (.int .u8 q) ∧ w.frozen? ⟨g, k, none⟩ = false := by
  obtain ⟨l, h⟩ := h
  have hl := h.1
  rcases h.2 with ⟨rfl, h0⟩ | ⟨g, cap, cur, rfl, hb, hg, hnc, hcm, _⟩
  · exact ⟨none, 0, 0, rfl, by omega, fun k hk => absurd hk (by omega)⟩
  · unfold maxLen at hcm
    exact ⟨_, _, cap, rfl, by omega, fun k hk => ⟨g, _, rfl, hb, h.cell_ k hk, h.free k⟩⟩
/-- The frames that were told, while their bodies are written over. -/
structure Own9 (w1 wr : World) (v : Value) (fs : List Fr) (xs : List Value) : Prop where
  below : Below w1.heap.size w1 wr
  row : wr.ownsRow w1.heap.size 31 2 v fs.length xs
  cells : FrCells xs fs fun c _ => Some8 wr w1.heap.size c
theorem Own9.set_ {w1 wr : World} {v : Value} {fs : List Fr} {xs : List Value} (h : Own9 w1 wr v fs xs) {c : Value} (hc : Some8 wr w1.heap.size c) {g k : Nat} (hg : c.ownBlock = some g) (hge : w1.heap.size ≤ g) (u : UInt8) : Own9 w1 (wr.setCell ⟨g, k, none⟩ (byt u)) v fs xs := by
  refine ⟨h.below.setCell (p := ⟨g, k, none⟩) hge _, ownsRow_setCell_other h.row (a := ⟨g, k, none⟩) ?_ _, h.cells.mono fun c _ h => h.set_ g k u⟩
  obtain ⟨l, ho⟩ := hc
  rcases row_ne h.row ho (by decide) with h1 | h1
  · rw [h1]; simp
  · rw [← hg]; exact h1
/-- The i-th one's body. -/
theorem Own9.body {w1 wr : World} {v : Value} {fs : List Fr} {xs : List Value} (h : Own9 w1 wr v fs xs) {i : Nat} (hi : i < fs.length) : ∃ c, xs[2 * i + 1]? = some c ∧ Some8 wr w1.heap.size c := by
  obtain ⟨c, _, h2, h3⟩ := h.cells i fs[i].1 fs[i].2 (List.getElem?_eq_getElem hi)
  exact ⟨c, h2, h3⟩
theorem Own9.cell {w1 wr : World} {fs : List Fr} {xs : List Value} {A : Option Addr} {n cap : Nat} (h : Own9 w1 wr (.slice A n cap) fs xs) {i : Nat} (hi : i < fs.length) {c : Value} (hc : xs[2 * i + 1]? = some c) : ∃ G, A = some ⟨G, 0, none⟩ ∧ wr.cell? ⟨G, i * 2 + 1, none⟩ = some c := by
  rcases h.row.2 with ⟨h1, h0⟩ | ⟨g, cap', cur, h1, _⟩
  · omega
  · injection h1 with h1 h2 h3
    subst h1
    have := h.row.cells (g := g) rfl (2 * i + 1) c hc
    rw [add_flat] at this
    exact ⟨g, rfl, by rw [← this]; congr 2; omega⟩
end Go.Proofs.Ytpegmingmcedmaa
