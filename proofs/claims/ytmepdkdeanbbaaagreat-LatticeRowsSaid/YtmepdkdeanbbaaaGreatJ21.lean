/- CubT -/
import Derived.Test.YtmepdkdeanbbaaaGreatJ2
import Derived.Test.YtmepdkdeanbbaaaGreatJ20
import Derived.Sort.Statements
namespace Go.Proofs.YtmepdkdeanbbaaaGreat
set_option maxRecDepth 100000
open Go.Sort

theorem lessK_ntrans {a b c : List Int} (h1 : lessK a b = false) (h2 : lessK b c = false) : lessK a c = false := by
 rcases h : lessK a c with _ | _
 ·rfl
 ·exfalso
  rcases lessK_tri a b with h3 | h3 | h3
  ·rw [h1] at h3; cases h3
  ·subst h3
   rw [h] at h2
   cases h2
  ·have h4 := lessK_trans h3 h
   rw [h2] at h4
   cases h4
def lt3 (x y : Int × Int × Int) : Bool := lessK (tup3 x) (tup3 y)
theorem swo3 : SWO lt3 := ⟨fun _ => lessK_irrefl _, fun _ _ _ h1 h2 => lessK_trans h1 h2, fun _ _ _ h1 h2 => lessK_ntrans h1 h2⟩
section
variable {α : Type} [Inhabited α] {lt : α → α → Bool} {d d' : Array α}
theorem permIn_list (h : PermIn 0 d.size d d') : d'.toList.Perm d.toList := by
 obtain ⟨h1, _, h3⟩ := h
 have e1 : d.extract 0 d.size = d := by simp
 have e2 : d'.extract 0 d.size = d' := by rw [← h1]; simp
 rw [e1, e2] at h3
 exact h3
theorem sortedIn_list (hs : d'.size = d.size) (h : SortedIn lt 0 d.size d') : d'.toList.Pairwise fun a b => lt b a = false := by
 rw [List.pairwise_iff_getElem]
 intro i j hi hj hij
 have hi' : i < d'.size := by simpa using hi
 have hj' : j < d'.size := by simpa using hj
 have := h i j (Nat.zero_le _) hij (by omega)
 rw [getElem!_pos d' i hi', getElem!_pos d' j hj'] at this
 simpa using this
end
theorem sort_keys {W : Nat} {C : Cub} {A : List (List Int)} (hC : Ris C) (hW : ∀ e ∈ C, isKey W e.1) (h3 : W ≤ 3) (hp : A.Perm (C.map (·.1))) {d d' : Array (Int × Int × Int)} (hd : d.toList = A.map pad3) (h1 : PermIn 0 d.size d d') (h2 : SortedIn lt3 0 d.size d') : d'.toList = (C.map (·.1)).map pad3 := by
 have hA : ∀ k ∈ A, k.length = W := fun k hk => by
  obtain ⟨e, he, rfl⟩ := List.mem_map.1 (hp.mem_iff.1 hk)
  exact (hW e he).1
 have q1 := permIn_list h1
 rw [hd] at q1
 have q2 := sortedIn_list h1.1 h2
 have back : ∀ k ∈ A, (tup3 (pad3 k)).take W = k := fun k hk => by
  have e := hA k hk
  rw [← e]
  exact pad3_take (by omega)
 have e1 : (d'.toList.map fun t => (tup3 t).take W).map pad3 = d'.toList := by
  rw [List.map_map]
  conv => rhs; rw [← List.map_id d'.toList]
  apply List.map_congr_left
  intro t ht
  obtain ⟨k, hk, rfl⟩ := List.mem_map.1 (q1.mem_iff.1 ht)
  simp [back k hk]
 have p1 : (d'.toList.map fun t => (tup3 t).take W).Perm A := by
  have := q1.map fun t => (tup3 t).take W
  rw [List.map_map] at this
  have e2 : A.map ((fun t => (tup3 t).take W) ∘ pad3) = A := by
   conv => rhs; rw [← List.map_id A]
   exact List.map_congr_left fun k hk => back k hk
  rw [e2] at this
  exact this
 have s1 : (d'.toList.map fun t => (tup3 t).take W).Pairwise fun a b => lessK b a = false := by
  rw [List.pairwise_map]
  refine List.Pairwise.imp_of_mem (fun {a b} ha hb hl => ?_) q2
  obtain ⟨k, hk, rfl⟩ := List.mem_map.1 (q1.mem_iff.1 ha)
  obtain ⟨j, hj, rfl⟩ := List.mem_map.1 (q1.mem_iff.1 hb)
  rw [back k hk, back j hj]
  have e3 := pad3_less (a := j) (b := k) ((hA j hj).trans (hA k hk).symm) (by rw [hA j hj]; exact h3)
  rw [← e3]
  exact hl
 rw [← e1, keys_eq hC (p1.trans hp) s1]
end Go.Proofs.YtmepdkdeanbbaaaGreat
