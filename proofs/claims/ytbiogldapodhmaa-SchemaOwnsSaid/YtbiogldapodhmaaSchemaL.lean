/- Layer 8's statements: the document's examples. -/
import Derived.Test.YtbiogldapodhmaaSchemaW
namespace Go.Proofs.Ytbiogldapodhmaa
open Go.RowKit

def D0 : List PDim := [([97], [[120], [121]]), ([98], [[120], [121], [122]])]
def M0 : List Txt := [[109]]
def V0 : List (List Int) := [[0, 0]]
theorem fitD0 : FitD D0 := by
  intro d hd
  simp [D0] at hd
  rcases hd with rfl | rfl <;> exact ⟨by decide, by decide⟩
theorem fitM0 : ∀ s ∈ M0, s.length ≤ maxLen := by decide
theorem fitV0 : ∀ l ∈ V0, l.length ≤ 1000 := by decide
theorem base0 : baseP D0 = [2, 3] := by decide
theorem lit2I (w : World) (a b : Int) (g : Nat) (hg : g = w.heap.size) : HasI (w.alloc (.cells #[.int .i64 a, .int .i64 b] 3)) (w.alloc (.cells #[.int .i64 a, .int .i64 b] 3)).heap.size (some ⟨g, 0, none⟩) 2 2 [a, b] :=
  (HasI.litAt w [a, b] #[.int .i64 a, .int .i64 b] rfl 3 (0, 0) 2 rfl (by decide) g hg).more (by subst hg; simp)
theorem OwnL.lit1 {w : World} {A : Option Addr} {n c : Nat} {l : List Int} (h : HasI w w.heap.size A n c l) (g : Nat) (hg : g = w.heap.size) : HasL (w.alloc (.cells #[.slice A n c] 30)) (w.alloc (.cells #[.slice A n c] 30)).heap.size (some ⟨g, 0, none⟩) 1 1 [l] := by
  subst hg
  refine ⟨rfl, Nat.le_refl _, by decide, (fun h => by cases h), fun i hi => ?_⟩
  obtain rfl : i = 0 := by omega
  exact ⟨w.heap.size, 0, A, n, c, rfl, by simp, by rw [cell_new]; rfl, h.allocS _⟩
/-- The schema of the examples, as it is laid. -/
abbrev o0 : Obj := .cells #[.string ⟨#[120]⟩, .string ⟨#[121]⟩] 9
abbrev o1 : Obj := .cells #[.string ⟨#[120]⟩, .string ⟨#[121]⟩, .string ⟨#[122]⟩] 9
abbrev o2 (H : Nat) : Obj := .cells #[.string ⟨#[97]⟩, .slice (some ⟨H, 0, none⟩) 2 2, .string ⟨#[98]⟩, .slice (some ⟨H + 1, 0, none⟩) 3 3] 42
abbrev o3 : Obj := .cells #[.string ⟨#[109]⟩] 9
abbrev o4 : Obj := .cells #[.int .i64 0, .int .i64 0] 3
abbrev o5 (H : Nat) : Obj := .cells #[.slice (some ⟨H + 1 + 1 + 1 + 1, 0, none⟩) 2 2] 30
abbrev o6 (H : Nat) : Obj := .cells #[.slice (some ⟨H + 1 + 1, 0, none⟩) 2 2, .slice (some ⟨H + 1 + 1 + 1, 0, none⟩) 1 1, .slice (some ⟨H + 1 + 1 + 1 + 1 + 1, 0, none⟩) 1 1] 26
abbrev W0 (w : World) : World := ((((((w.alloc o0).alloc o1).alloc (o2 w.heap.size)).alloc o3).alloc o4).alloc (o5 w.heap.size)).alloc (o6 w.heap.size)
theorem W0_below (w : World) : Below w.heap.size w (W0 w) :=
  below_then (below_then (below_then (below_then (below_a3 w _ _ _) (below_a1 _ _)) (below_a1 _ _)) (below_a1 _ _)) (below_a1 _ _)
theorem W0_has (w : World) : HasS (W0 w) (W0 w).heap.size (some ⟨w.heap.size + 1 + 1, 0, none⟩) 2 2 (some ⟨w.heap.size + 1 + 1 + 1, 0, none⟩) 1 1 (some ⟨w.heap.size + 1 + 1 + 1 + 1 + 1, 0, none⟩) 1 1 D0 M0 V0 := by
  have a0 := HasT.litAt w [[120], [121]] #[.string ⟨#[120]⟩, .string ⟨#[121]⟩] rfl 9 2 rfl (by decide) w.heap.size rfl
  have a1 := HasT.litAt (w.alloc o0) [[120], [121], [122]] #[.string ⟨#[120]⟩, .string ⟨#[121]⟩, .string ⟨#[122]⟩] rfl 9 3 rfl (by decide) (w.heap.size + 1) (by simp)
  have a0 := a0.allocS o1
  have d : HasDs (((w.alloc o0).alloc o1).alloc (o2 w.heap.size)) (((w.alloc o0).alloc o1).alloc (o2 w.heap.size)).heap.size (some ⟨w.heap.size + 1 + 1, 0, none⟩) 2 2 D0 := by
    refine ⟨rfl, Nat.le_refl _, by decide, (fun h => by cases h), fun i hi => ?_⟩
    have hc : ∀ k u, (#[.string ⟨#[97]⟩, .slice (some ⟨w.heap.size, 0, none⟩) 2 2, .string ⟨#[98]⟩, .slice (some ⟨w.heap.size + 1, 0, none⟩) 3 3] : Array Value)[k]? = some u → (((w.alloc o0).alloc o1).alloc (o2 w.heap.size)).cell? ⟨w.heap.size + 1 + 1, k, none⟩ = some u := fun k u hu => by
      have := cell_new ((w.alloc o0).alloc o1) #[.string ⟨#[97]⟩, .slice (some ⟨w.heap.size, 0, none⟩) 2 2, .string ⟨#[98]⟩, .slice (some ⟨w.heap.size + 1, 0, none⟩) 3 3] 42 (0, 0) k
      rw [World.size_alloc, World.size_alloc] at this
      exact this.trans hu
    match i, hi with
    | 0, _ => exact ⟨_, 0, _, _, _, rfl, by simp, hc 0 _ rfl, hc 1 _ rfl, a0.allocS _⟩
    | 1, _ => exact ⟨_, 0, _, _, _, rfl, by simp, hc 2 _ rfl, hc 3 _ rfl, a1.allocS _⟩
    | (j + 2), h => exact absurd h (by omega)
  have m := HasT.litAt (((w.alloc o0).alloc o1).alloc (o2 w.heap.size)) [[109]] #[.string ⟨#[109]⟩] rfl 9 1 rfl (by decide) (w.heap.size + 1 + 1 + 1) (by simp)
  have d := d.belowS (below_a1 _ o3)
  have i4 := lit2I ((((w.alloc o0).alloc o1).alloc (o2 w.heap.size)).alloc o3) 0 0 (w.heap.size + 1 + 1 + 1 + 1) (by simp)
  have d := d.belowS (below_a1 _ o4)
  have m := m.allocS o4
  have v : HasL (((((w.alloc o0).alloc o1).alloc (o2 w.heap.size)).alloc o3).alloc o4 |>.alloc (o5 w.heap.size)) _ (some ⟨w.heap.size + 1 + 1 + 1 + 1 + 1, 0, none⟩) 1 1 V0 :=
    ((OwnL.lit1 i4 (w.heap.size + 1 + 1 + 1 + 1 + 1) (by simp)))
  have d := d.belowS (below_a1 _ (o5 w.heap.size))
  have m := m.allocS (o5 w.heap.size)
  exact ⟨d.belowS (below_a1 _ _), m.allocS _, v.belowS (below_a1 _ _)⟩
theorem W0_box (w : World) : Block (W0 w) (w.heap.size + 1 + 1 + 1 + 1 + 1 + 1) 26 #[.slice (some ⟨w.heap.size + 1 + 1, 0, none⟩) 2 2, .slice (some ⟨w.heap.size + 1 + 1 + 1, 0, none⟩) 1 1, .slice (some ⟨w.heap.size + 1 + 1 + 1 + 1 + 1, 0, none⟩) 1 1] := by
  have := Block.new (((((((w.alloc o0).alloc o1).alloc (o2 w.heap.size)).alloc o3).alloc o4).alloc (o5 w.heap.size))) 26 #[.slice (some ⟨w.heap.size + 1 + 1, 0, none⟩) 2 2, .slice (some ⟨w.heap.size + 1 + 1 + 1, 0, none⟩) 1 1, .slice (some ⟨w.heap.size + 1 + 1 + 1 + 1 + 1, 0, none⟩) 1 1]
  simpa using this
end Go.Proofs.Ytbiogldapodhmaa
