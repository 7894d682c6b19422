/- CubP -/
import Derived.Test.YteifhgcjmjihgaaJ19
import Derived.Test.YteifhgcjmjihgaaJ24
namespace Go.Proofs.Yteifhgcjmjihgaa
set_option maxRecDepth 100000

/-! ### bytes, step by step -/
/-- The three numbers of the k-th measure. -/
def encM3 (S M X : List Int) (k : Nat) : List UInt8 := encI (S.getD k 0) ++ (encI (M.getD k 0) ++ encI (X.getD k 0))
theorem encOne_is (m : Nat) (k : List Int) (n : Int) (S M X : List Int) : encOne m (k, n, S, M, X) = k.flatMap encI ++ (encI n ++ (List.range m).flatMap (encM3 S M X)) := by
  unfold encOne encRaw ofC
  simp only [List.flatMap_map]
  rfl
theorem range_step (f : Nat → List UInt8) (k : Nat) : (List.range (k + 1)).flatMap f = (List.range k).flatMap f ++ f k := by
  rw [List.range_succ, List.flatMap_append]
  simp
theorem code_len {w : Nat} {k : List Int} (h : isKey w k) : (k.flatMap encI).length ≤ 10 * w := by
  rw [← h.1]
  exact flat_len fun c hc => encI_len (by have := h.2 c hc; omega) (by have := h.2 c hc; omega)
theorem encM3_len {m k : Nat} {n : Int} {S M X : List Int} (h : isCell m (n, S, M, X)) (hk : k < m) : (encM3 S M X k).length ≤ 30 := by
  obtain ⟨_, _, b⟩ := isCell_bounds h
  obtain ⟨h1, h2, h3⟩ := b k hk
  have h1 : inS (S.getD k 0) := h1
  have h2 : inV (M.getD k 0) := h2
  have h3 : inV (X.getD k 0) := h3
  unfold inS at h1
  unfold inV at h2 h3
  have a := encI_len (x := S.getD k 0) (by omega) (by omega)
  have b := encI_len (x := M.getD k 0) (by omega) (by omega)
  have c := encI_len (x := X.getD k 0) (by omega) (by omega)
  unfold encM3
  rw [List.length_append, List.length_append]
  omega
theorem encMs_len {m : Nat} {n : Int} {S M X : List Int} (h : isCell m (n, S, M, X)) : ∀ j, j ≤ m → ((List.range j).flatMap (encM3 S M X)).length ≤ 30 * j
  | 0, _ => by simp
  | j + 1, hj => by
    have h1 := encMs_len h j (by omega)
    have h2 := encM3_len h (show j < m by omega)
    rw [range_step, List.length_append]
    omega
theorem encOne_len {w m : Nat} {k : List Int} {x : PC} (hk : isKey w k) (hx : isCell m x) : (encOne m (k, x)).length ≤ 10 * w + 10 + 30 * m := by
  obtain ⟨n, S, M, X⟩ := x
  obtain ⟨b1, b2, _⟩ := isCell_bounds hx
  have b1 : 1 ≤ n := b1
  have b2 : n ≤ 1099511627776 := b2
  have h1 := code_len hk
  have h2 := encI_len (x := n) (by omega) (by omega)
  have h3 := encMs_len hx m (Nat.le_refl _)
  rw [encOne_is, List.length_append, List.length_append]
  omega
theorem encC_len {w m : Nat} {C : Cub} (h : Cuboid w m C) (hw : w ≤ 3) (hm : m ≤ 2) (hn : C.length ≤ 1000000) : (encC m C).length ≤ 10 + 100 * C.length := by
  have h1 := encI_len (x := (C.length : Int)) (by omega) (by omega)
  have h2 := flat_len (f := encOne m) (l := C) (m := 100) fun d hd => by
    have := encOne_len (h.key d hd) (h.cell d hd)
    exact Nat.le_trans this (by omega)
  unfold encC
  rw [List.length_append]
  omega
/-- .. of the first i cells. -/
theorem encTake_len {w m i : Nat} {C : Cub} (h : Cuboid w m C) (hw : w ≤ 3) (hm : m ≤ 2) : ((C.take i).flatMap (encOne m)).length ≤ 100 * C.length := by
  have h2 := flat_len (f := encOne m) (l := C.take i) (m := 100) fun d hd => by
    have hd := List.mem_of_mem_take hd
    have := encOne_len (h.key d hd) (h.cell d hd)
    exact Nat.le_trans this (by omega)
  refine Nat.le_trans h2 (Nat.mul_le_mul_left 100 ?_)
  rw [List.length_take]
  exact Nat.min_le_right _ _

/-! ### cells that come in whatever order -/
/-- Those of C that have come. -/
def subK (C : Cub) (acc : List (List Int)) : Cub := C.filter fun e => decide (e.1 ∈ acc)
theorem subK_ris {C : Cub} (h : Ris C) (acc : List (List Int)) : Ris (subK C acc) := List.Pairwise.filter _ h
theorem subK_get {C : Cub} {acc : List (List Int)} (k : List Int) : getK (subK C acc) k = if k ∈ acc then getK C k else none := by
  induction C with
  | nil => simp [subK, getK]
  | cons e C ih =>
    unfold subK at ih ⊢
    rw [List.filter_cons]
    by_cases he : e.1 ∈ acc
    · rw [if_pos (decide_eq_true he), getK, getK, ih]
      by_cases hk : e.1 = k
      · subst hk
        rw [if_pos rfl, if_pos he, if_pos rfl]
      · rw [if_neg hk, if_neg hk]
    · rw [if_neg (by simpa using he), ih, getK]
      by_cases hk : e.1 = k
      · subst hk
        rw [if_neg he, if_neg he]
      · rw [if_neg hk]
theorem subK_nil (C : Cub) : subK C [] = [] := by
  unfold subK
  simp
theorem subK_step {C : Cub} (h : Ris C) {acc : List (List Int)} {k : List Int} {x : PC} (hx : getK C k = some x) : setK (subK C acc) k x = subK C (acc ++ [k]) := by
  refine ris_ext (setK_ris (subK_ris h _) _ _) (subK_ris h _) fun j => ?_
  rw [getK_setK, subK_get, subK_get]
  by_cases hj : j = k
  · subst hj
    rw [if_pos rfl, if_pos (by simp), hx]
  · rw [if_neg hj]
    simp [hj]
theorem subK_all {C : Cub} {acc : List (List Int)} (hp : acc.Perm (C.map (·.1))) : subK C acc = C := by
  unfold subK
  rw [List.filter_eq_self]
  intro e he
  exact decide_eq_true (hp.mem_iff.2 (List.mem_map.2 ⟨e, he, rfl⟩))
theorem subK_cuboid {w m : Nat} {C : Cub} (h : Cuboid w m C) (acc : List (List Int)) : Cuboid w m (subK C acc) :=
  ⟨subK_ris h.ris _, fun e he => h.key e (List.mem_filter.1 he).1, fun e he => h.cell e (List.mem_filter.1 he).1⟩
end Go.Proofs.Yteifhgcjmjihgaa
