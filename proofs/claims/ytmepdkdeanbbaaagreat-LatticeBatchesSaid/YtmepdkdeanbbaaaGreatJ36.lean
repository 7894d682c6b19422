/- CubP -/
import Derived.Test.YtmepdkdeanbbaaaGreatJ15
import Derived.Test.YtmepdkdeanbbaaaGreatJ20
namespace Go.Proofs.YtmepdkdeanbbaaaGreat
set_option maxRecDepth 100000

/-! ### bytes, step by step -/
def encM3 (S M X : List Int) (k : Nat) : List UInt8 := encI (S.getD k 0) ++ (encI (M.getD k 0) ++ encI (X.getD k 0))
theorem encOne_is (m : Nat) (k : List Int) (n : Int) (S M X : List Int) : encOne m (k, n, S, M, X) = k.flatMap encI ++ (encI n ++ (List.range m).flatMap (encM3 S M X)) := by
 unfold encOne encRaw ofC
 simp only [List.flatMap_map]
 rfl
theorem range_step (f : Nat → List UInt8) (k : Nat) : (List.range (k + 1)).flatMap f = (List.range k).flatMap f ++ f k := by
 rw [List.range_succ, List.flatMap_append]
 simp
theorem code_len {w : Nat} {k : List Int} (h : isKey w k) : (k.flatMap encI).length ≤ 10 * w := by
 rw [← h.1]
 exact flat_len fun c hc => encI_len (by have := h.2 c hc; omega) (by have := h.2 c hc; omega)
theorem encM3_len {m k : Nat} {n : Int} {S M X : List Int} (h : isCell m (n, S, M, X)) (hk : k < m) : (encM3 S M X k).length ≤ 30 := by
 obtain ⟨_, _, b⟩ := isCell_bounds h
 obtain ⟨h1, h2, h3⟩ := b k hk
 have h1 : inS (S.getD k 0) := h1
 have h2 : inV (M.getD k 0) := h2
 have h3 : inV (X.getD k 0) := h3
 unfold inS at h1
 unfold inV at h2 h3
 have a := encI_len (x := S.getD k 0) (by omega) (by omega)
 have b := encI_len (x := M.getD k 0) (by omega) (by omega)
 have c := encI_len (x := X.getD k 0) (by omega) (by omega)
 unfold encM3
 rw [List.length_append, List.length_append]
 omega
theorem encMs_len {m : Nat} {n : Int} {S M X : List Int} (h : isCell m (n, S, M, X)) : ∀ j, j ≤ m → ((List.range j).flatMap (encM3 S M X)).length ≤ 30 * j
 | 0, _ => by simp
 | j + 1, hj => by
  have h1 := encMs_len h j (by omega)
  have h2 := encM3_len h (show j < m by omega)
  rw [range_step, List.length_append]
  omega
theorem encOne_len {w m : Nat} {k : List Int} {x : PC} (hk : isKey w k) (hx : isCell m x) : (encOne m (k, x)).length ≤ 10 * w + 10 + 30 * m := by
 obtain ⟨n, S, M, X⟩ := x
 obtain ⟨b1, b2, _⟩ := isCell_bounds hx
 have b1 : 1 ≤ n := b1
 have b2 : n ≤ 1099511627776 := b2
 have h1 := code_len hk
 have h2 := encI_len (x := n) (by omega) (by omega)
 have h3 := encMs_len hx m (Nat.le_refl _)
 rw [encOne_is, List.length_append, List.length_append]
 omega
theorem encTake_len {w m i : Nat} {C : Cub} (h : Cuboid w m C) (hw : w ≤ 3) (hm : m ≤ 2) : ((C.take i).flatMap (encOne m)).length ≤ 100 * C.length := by
 have h2 := flat_len (f := encOne m) (l := C.take i) (m := 100) fun d hd => by
  have hd := List.mem_of_mem_take hd
  have := encOne_len (h.key d hd) (h.cell d hd)
  exact Nat.le_trans this (by omega)
 refine Nat.le_trans h2 (Nat.mul_le_mul_left 100 ?_)
 rw [List.length_take]
 exact Nat.min_le_right _ _

/-! ### cells that come in whatever order -/
end Go.Proofs.YtmepdkdeanbbaaaGreat
