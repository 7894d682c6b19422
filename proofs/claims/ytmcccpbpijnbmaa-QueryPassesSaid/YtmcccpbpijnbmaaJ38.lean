/- QryO -/
import Derived.Test.YtmcccpbpijnbmaaJ9
import Derived.Test.YtmcccpbpijnbmaaJ29
import Derived.Test.YtmcccpbpijnbmaaJ34
import Derived.Test.YtmcccpbpijnbmaaJ36
namespace Go.Proofs.Ytmcccpbpijnbmaa
set_option maxRecDepth 100000
open Go.RowKit

def LqD : List PDim := [([97], [[108], [109]]), ([98], [[108], [109]])]
def LqM : List Txt := [[118]]
def LqQ : Qry := ([1, 0], [(1, 2, [[[97], [120]]])])
theorem lq_may : mayQ LqD LqM [] LqQ = 0 := by decide +kernel
theorem lq_need : needA LqD LqM [] LqQ = [1, 2] := by decide +kernel
theorem lq_key : keyQ LqQ [[[98], [99]], [[97], [120]]] = [[[98]], []] := by decide +kernel
theorem lq_pass : decide (passQ [[[98], [99]], [[97], [120]]] LqQ) = true := by decide +kernel
theorem lq_not : decide (passQ [[[98], [99]], [[97], [121]]] LqQ) = false := by decide +kernel
theorem lq_fit : FitD LqD := by
 intro d hd
 simp only [LqD, List.mem_cons, List.not_mem_nil, or_false] at hd
 rcases hd with rfl | rfl
 all_goals
  refine ⟨by decide, fun s hs => ?_⟩
  simp only [List.mem_cons, List.not_mem_nil, or_false] at hs
  rcases hs with rfl | rfl <;> decide
theorem lq_m : ∀ s ∈ LqM, s.length ≤ maxLen := by
 intro s hs
 rw [List.mem_singleton.1 hs]; decide
def LqS (w : World) : World := (((w.alloc (.cells #[.string ⟨#[108]⟩, .string ⟨#[109]⟩] 9)).alloc (.cells #[.string ⟨#[97]⟩, .slice (some ⟨w.heap.size, 0, none⟩) 2 2, .string ⟨#[98]⟩, .slice (some ⟨w.heap.size, 0, none⟩) 2 2] 58)).alloc (.cells #[.string ⟨#[118]⟩] 9)).alloc (.cells #[.slice (some ⟨w.heap.size + 1, 0, none⟩) 2 2, .slice (some ⟨w.heap.size + 1 + 1, 0, none⟩) 1 1, .slice none 0 0] 26)
theorem LqS_size (w : World) : (LqS w).heap.size = w.heap.size + 1 + 1 + 1 + 1 := by simp [LqS]
theorem LqS_below (w : World) : Below w.heap.size w (LqS w) := below_then (below_then (below_then (below_a1 w _) (below_a1 _ _)) (below_a1 _ _)) (below_a1 _ _)
theorem LqS_block (w : World) : Block (LqS w) (w.heap.size + 1 + 1 + 1) 26 #[.slice (some ⟨w.heap.size + 1, 0, none⟩) 2 2, .slice (some ⟨w.heap.size + 1 + 1, 0, none⟩) 1 1, .slice none 0 0] := by
 have h := Block.new (((w.alloc (.cells #[.string ⟨#[108]⟩, .string ⟨#[109]⟩] 9)).alloc (.cells #[.string ⟨#[97]⟩, .slice (some ⟨w.heap.size, 0, none⟩) 2 2, .string ⟨#[98]⟩, .slice (some ⟨w.heap.size, 0, none⟩) 2 2] 58)).alloc (.cells #[.string ⟨#[118]⟩] 9)) 26 #[.slice (some ⟨w.heap.size + 1, 0, none⟩) 2 2, .slice (some ⟨w.heap.size + 1 + 1, 0, none⟩) 1 1, .slice none 0 0]
 rwa [show (((w.alloc (.cells #[.string ⟨#[108]⟩, .string ⟨#[109]⟩] 9)).alloc (.cells #[.string ⟨#[97]⟩, .slice (some ⟨w.heap.size, 0, none⟩) 2 2, .string ⟨#[98]⟩, .slice (some ⟨w.heap.size, 0, none⟩) 2 2] 58)).alloc (.cells #[.string ⟨#[118]⟩] 9)).heap.size = w.heap.size + 1 + 1 + 1 by simp] at h
theorem LqS_has (w : World) : HasS (LqS w) (LqS w).heap.size (some ⟨w.heap.size + 1, 0, none⟩) 2 2 (some ⟨w.heap.size + 1 + 1, 0, none⟩) 1 1 none 0 0 LqD LqM [] := by
 have a0 := HasT.litAt w [[108], [109]] #[.string ⟨#[108]⟩, .string ⟨#[109]⟩] rfl 9 2 rfl (by decide) w.heap.size rfl
 have hb := Block.new (w.alloc (.cells #[.string ⟨#[108]⟩, .string ⟨#[109]⟩] 9)) 58 #[.string ⟨#[97]⟩, .slice (some ⟨w.heap.size, 0, none⟩) 2 2, .string ⟨#[98]⟩, .slice (some ⟨w.heap.size, 0, none⟩) 2 2]
 rw [show (w.alloc (.cells #[.string ⟨#[108]⟩, .string ⟨#[109]⟩] 9)).heap.size = w.heap.size + 1 by simp] at hb
 have a1 := a0.allocS (.cells #[.string ⟨#[97]⟩, .slice (some ⟨w.heap.size, 0, none⟩) 2 2, .string ⟨#[98]⟩, .slice (some ⟨w.heap.size, 0, none⟩) 2 2] 58)
 have z2 : ((w.alloc (.cells #[.string ⟨#[108]⟩, .string ⟨#[109]⟩] 9)).alloc (.cells #[.string ⟨#[97]⟩, .slice (some ⟨w.heap.size, 0, none⟩) 2 2, .string ⟨#[98]⟩, .slice (some ⟨w.heap.size, 0, none⟩) 2 2] 58)).heap.size = w.heap.size + 1 + 1 := by simp
 unfold LqS
 generalize (w.alloc (.cells #[.string ⟨#[108]⟩, .string ⟨#[109]⟩] 9)).alloc (.cells #[.string ⟨#[97]⟩, .slice (some ⟨w.heap.size, 0, none⟩) 2 2, .string ⟨#[98]⟩, .slice (some ⟨w.heap.size, 0, none⟩) 2 2] 58) = W at hb a1 z2 ⊢
 have hD : HasDs W W.heap.size (some ⟨w.heap.size + 1, 0, none⟩) 2 2 LqD :=
  ⟨rfl, Nat.le_refl _, by unfold maxLen; omega, (fun h => by cases h), fun i hi => by
   match i, hi with
   | 0, _ => exact ⟨w.heap.size + 1, 0, _, _, _, rfl, hb.lt, hb.cell 0, hb.cell 1, a1⟩
   | 1, _ => exact ⟨w.heap.size + 1, 0, _, _, _, rfl, hb.lt, hb.cell 2, hb.cell 3, a1⟩⟩
 have hm := HasT.litAt W [[118]] #[.string ⟨#[118]⟩] rfl 9 1 rfl (by decide) (w.heap.size + 1 + 1) z2.symm
 exact ⟨(hD.belowS (below_a1 _ _)).belowS (below_a1 _ _), hm.allocS _, ⟨rfl, Nat.le_refl _, Nat.zero_le _, fun _ => rfl, fun i hi => absurd hi (by omega)⟩⟩
def LqF (w : World) (g : Nat) : World := ((((w.alloc (.cells #[.int .i64 1, .int .i64 0] 3)).alloc (.cells #[.string ⟨#[97]⟩, .string ⟨#[120]⟩] 9)).alloc (.cells #[.slice (some ⟨g + 1, 0, none⟩) 2 2] 23)).alloc (.cells #[.int .i64 1, .int .i64 2, .slice (some ⟨g + 1 + 1, 0, none⟩) 1 1] 54)).alloc (.cells #[.slice (some ⟨g, 0, none⟩) 2 2, .slice (some ⟨g + 1 + 1 + 1, 0, none⟩) 1 1] 30)
theorem LqF_below (w : World) (g : Nat) : Below w.heap.size w (LqF w g) := below_then (below_then (below_then (below_then (below_a1 w _) (below_a1 _ _)) (below_a1 _ _)) (below_a1 _ _)) (below_a1 _ _)
theorem LqF_has (w : World) (g : Nat) (hg : g = w.heap.size) : HasQ (LqF w g) (fun b => g ≤ b) (some ⟨g, 0, none⟩) 2 2 (some ⟨g + 1 + 1 + 1, 0, none⟩) 1 1 LqQ ∧ Block (LqF w g) (g + 1 + 1 + 1 + 1) 30 #[.slice (some ⟨g, 0, none⟩) 2 2, .slice (some ⟨g + 1 + 1 + 1, 0, none⟩) 1 1] := by
 have a0 := Row.litS (S := fun b => g ≤ b) (E := elInt) (sz := 1) elInt_ok w #[.int .i64 1, .int .i64 0] 3 2 [1, 0] rfl rfl (by decide) g hg (Nat.le_refl _) (fun i x hi => by
  match i, hi with
  | 0, hi => simp at hi; subst hi; rfl
  | 1, hi => simp at hi; subst hi; rfl
  | i + 2, hi => simp at hi)
 have z1 : (w.alloc (.cells #[.int .i64 1, .int .i64 0] 3)).heap.size = g + 1 := by rw [World.size_alloc, hg]
 unfold LqF
 generalize w.alloc (.cells #[.int .i64 1, .int .i64 0] 3) = w1 at a0 z1 ⊢
 have a1 := Row.litS (S := fun b => g ≤ b) (E := elText) (sz := 1) elText_ok w1 #[.string ⟨#[97]⟩, .string ⟨#[120]⟩] 9 2 [[97], [120]] rfl rfl (by decide) (g + 1) z1.symm (by omega) (fun i x hi => by
  match i, hi with
  | 0, hi => simp at hi; subst hi; rfl
  | 1, hi => simp at hi; subst hi; rfl
  | i + 2, hi => simp at hi)
 have m0 := a0.mv elInt_ok (Mv.alloc w1 (.cells #[.string ⟨#[97]⟩, .string ⟨#[120]⟩] 9) _)
 have z2 : (w1.alloc (.cells #[.string ⟨#[97]⟩, .string ⟨#[120]⟩] 9)).heap.size = g + 1 + 1 := by rw [World.size_alloc, z1]
 generalize w1.alloc (.cells #[.string ⟨#[97]⟩, .string ⟨#[120]⟩] 9) = w2 at a1 m0 z2 ⊢
 have a2 := Row.litS (S := fun b => g ≤ b) (E := elRow elText 1) (sz := 1) elPath_ok w2 #[.slice (some ⟨g + 1, 0, none⟩) 2 2] 23 1 [[[97], [120]]] rfl rfl (by decide) (g + 1 + 1) z2.symm (by omega) (fun i x hi => by
  match i, hi with
  | 0, hi => simp at hi; subst hi; exact ⟨_, _, _, rfl, a1⟩
  | i + 1, hi => simp at hi)
 have m1 := m0.mv elInt_ok (Mv.alloc w2 (.cells #[.slice (some ⟨g + 1, 0, none⟩) 2 2] 23) _)
 have z3 : (w2.alloc (.cells #[.slice (some ⟨g + 1, 0, none⟩) 2 2] 23)).heap.size = g + 1 + 1 + 1 := by rw [World.size_alloc, z2]
 generalize w2.alloc (.cells #[.slice (some ⟨g + 1, 0, none⟩) 2 2] 23) = w3 at a2 m1 z3 ⊢
 have a3 := Row.litS (S := fun b => g ≤ b) (E := elFil) (sz := 3) elFil_ok w3 #[.int .i64 1, .int .i64 2, .slice (some ⟨g + 1 + 1, 0, none⟩) 1 1] 54 1 [(1, 2, [[[97], [120]]])] rfl rfl (by decide) (g + 1 + 1 + 1) z3.symm (by omega) (fun i x hi => by
  match i, hi with
  | 0, hi => simp at hi; subst hi; exact elFil_mk a2
  | i + 1, hi => simp at hi)
 have m2 := m1.mv elInt_ok (Mv.alloc w3 (.cells #[.int .i64 1, .int .i64 2, .slice (some ⟨g + 1 + 1, 0, none⟩) 1 1] 54) _)
 have z4 : (w3.alloc (.cells #[.int .i64 1, .int .i64 2, .slice (some ⟨g + 1 + 1, 0, none⟩) 1 1] 54)).heap.size = g + 1 + 1 + 1 + 1 := by rw [World.size_alloc, z3]
 generalize w3.alloc (.cells #[.int .i64 1, .int .i64 2, .slice (some ⟨g + 1 + 1, 0, none⟩) 1 1] 54) = w4 at a3 m2 z4 ⊢
 have hB := Block.new w4 30 #[.slice (some ⟨g, 0, none⟩) 2 2, .slice (some ⟨g + 1 + 1 + 1, 0, none⟩) 1 1]
 rw [z4] at hB
 exact ⟨⟨m2.mv elInt_ok (Mv.alloc w4 _ _), a3.mv elFil_ok (Mv.alloc w4 _ _)⟩, hB⟩
def LqP (w : World) (g : Nat) (x y u v : Array UInt8) : World := ((w.alloc (.cells #[.string ⟨x⟩, .string ⟨y⟩] 9)).alloc (.cells #[.string ⟨u⟩, .string ⟨v⟩] 9)).alloc (.cells #[.slice (some ⟨g, 0, none⟩) 2 2, .slice (some ⟨g + 1, 0, none⟩) 2 2] 23)
theorem LqP_below (w : World) (g : Nat) (x y u v : Array UInt8) : Below w.heap.size w (LqP w g x y u v) := below_then (below_then (below_a1 w _) (below_a1 _ _)) (below_a1 _ _)
theorem LqP_has (w : World) (g : Nat) (hg : g = w.heap.size) (x y u v : Txt) : Row (elRow elText 1) 1 (LqP w g x.toArray y.toArray u.toArray v.toArray) (fun b => g ≤ b) (some ⟨g + 1 + 1, 0, none⟩) 2 2 [[x, y], [u, v]] := by
 have a0 := Row.litS (S := fun b => g ≤ b) (E := elText) (sz := 1) elText_ok w #[.string ⟨x.toArray⟩, .string ⟨y.toArray⟩] 9 2 [x, y] rfl rfl (by decide) g hg (Nat.le_refl _) (fun i z hi => by
  match i, hi with
  | 0, hi => simp at hi; subst hi; rfl
  | 1, hi => simp at hi; subst hi; rfl
  | i + 2, hi => simp at hi)
 have z1 : (w.alloc (.cells #[.string ⟨x.toArray⟩, .string ⟨y.toArray⟩] 9)).heap.size = g + 1 := by rw [World.size_alloc, hg]
 unfold LqP
 generalize w.alloc (.cells #[.string ⟨x.toArray⟩, .string ⟨y.toArray⟩] 9) = w1 at a0 z1 ⊢
 have a1 := Row.litS (S := fun b => g ≤ b) (E := elText) (sz := 1) elText_ok w1 #[.string ⟨u.toArray⟩, .string ⟨v.toArray⟩] 9 2 [u, v] rfl rfl (by decide) (g + 1) z1.symm (by omega) (fun i z hi => by
  match i, hi with
  | 0, hi => simp at hi; subst hi; rfl
  | 1, hi => simp at hi; subst hi; rfl
  | i + 2, hi => simp at hi)
 have m0 := a0.mv elText_ok (Mv.alloc w1 (.cells #[.string ⟨u.toArray⟩, .string ⟨v.toArray⟩] 9) _)
 have z2 : (w1.alloc (.cells #[.string ⟨u.toArray⟩, .string ⟨v.toArray⟩] 9)).heap.size = g + 1 + 1 := by rw [World.size_alloc, z1]
 generalize w1.alloc (.cells #[.string ⟨u.toArray⟩, .string ⟨v.toArray⟩] 9) = w2 at a1 m0 z2 ⊢
 exact Row.litS (S := fun b => g ≤ b) (E := elRow elText 1) (sz := 1) elPath_ok w2 #[.slice (some ⟨g, 0, none⟩) 2 2, .slice (some ⟨g + 1, 0, none⟩) 2 2] 23 2 [[x, y], [u, v]] rfl rfl (by decide) (g + 1 + 1) z2.symm (by omega) (fun i z hi => by
  match i, hi with
  | 0, hi => simp at hi; subst hi; exact ⟨_, _, _, rfl, m0⟩
  | 1, hi => simp at hi; subst hi; exact ⟨_, _, _, rfl, a1⟩
  | i + 2, hi => simp at hi)
set_option maxHeartbeats 4000000 in
theorem qryLives_any (w : World) : Calls Try.prog 13 #[] w fun e w' => e = .returned (.bool true) ∧ Below w.heap.size w w' := by
 have hB0 := LqS_below w
 have hS0 := LqS_has w
 have hK0 := LqS_block w
 have hz0 := LqS_size w
 have hB1 := LqF_below (LqS w) (w.heap.size + 1 + 1 + 1 + 1)
 obtain ⟨hQ1, hL1⟩ := LqF_has (LqS w) (w.heap.size + 1 + 1 + 1 + 1) hz0.symm
 have hS1 := hS0.belowS hB1
 have hK1 := hK0.below hB1 (by rw [hz0]; omega)
 have HB1 := Lib.hid (below_then hB0 hB1)
 have HN := Lib.hid (need_any hS1 lq_fit lq_m (by decide) hQ1)
 rw [lq_may, lq_need] at HN
 clear hS0 hK0 hz0 hB0 hB1
 go_enter Try.func13, Try.ntmps13
 go_wp2_with fail
 refine HN.out.mono ?_
 rintro e w2 ⟨v2, rfl, hO2, hb2⟩
 obtain ⟨gn, cn, rfl, _, hgn, _⟩ := hO2.formP (by decide)
 have hn0 := hO2.cell_ 0 (by decide)
 have hn1 := hO2.cell_ 1 (by decide)
 have hS2 := hS1.belowS hb2
 have hQ2 := hQ1.belowS hb2
 have hK2 := hK1.below hb2 hK1.lt
 have hL2 := hL1.below hb2 hL1.lt
 have HB2 := Lib.hid (below_then HB1.out hb2)
 have q0 : w2.cell? ⟨w.heap.size + 1 + 1 + 1 + 1 + 1 + 1 + 1 + 1, 0, none⟩ = some (.slice (some ⟨w.heap.size + 1 + 1 + 1 + 1, 0, none⟩) 2 2) := hL2.cell 0
 have q1 : w2.cell? ⟨w.heap.size + 1 + 1 + 1 + 1 + 1 + 1 + 1 + 1, 1, none⟩ = some (.slice (some ⟨w.heap.size + 1 + 1 + 1 + 1 + 1 + 1 + 1, 0, none⟩) 1 1) := hL2.cell 1
 have hbP := LqP_below w2 w2.heap.size #[98] #[99] #[97] #[120]
 have hP2 := LqP_has w2 w2.heap.size rfl [98] [99] [97] [120]
 have HKy := Lib.hid (key_any (hQ2.belowS hbP) hP2 (by decide) (fun p hp => by simp only [List.mem_cons, List.not_mem_nil, or_false] at hp; rcases hp with rfl | rfl <;> decide))
 rw [lq_key] at HKy
 clear HN hS1 hQ1 hK1 hL1 hb2 hO2
 go_wp2_with fail
 refine HKy.out.mono ?_
 rintro e w3 ⟨v3, rfl, hO3, hb3⟩
 have hb3' := below_then hbP hb3
 have hS3 := hS2.belowS hb3'
 have hQ3 := hQ2.belowS hb3'
 have hK3 := hK2.below hb3' hK2.lt
 have hL3 := hL2.below hb3' hL2.lt
 have HB3 := Lib.hid (below_then HB2.out hb3')
 have hn0 := (hb3'.cell (p := ⟨gn, 0, none⟩) hgn).trans hn0
 have hn1 := (hb3'.cell (p := ⟨gn, 1, none⟩) hgn).trans hn1
 have hgn := Nat.lt_of_lt_of_le hgn hb3'.size
 obtain ⟨Ak, ck, rfl, hR3⟩ := hO3.read elPathO_ok
 have hR4 : Row (elRow elText 1) 1 w3 (fun b => b < w3.heap.size) Ak 2 ck [[[98]], []] := (hR3.map (E' := elRow elText 1) fun us x h => elOwn_row elText_ok (fun _ _ h => h) h).mv elPath_ok (Mv.to w3 fun _ _ hl => hl)
 have HMy := Lib.hid (mayQry_any hS3 lq_fit lq_m (by decide) hQ3)
 rw [lq_may] at HMy
 have q0 : w3.cell? ⟨w.heap.size + 1 + 1 + 1 + 1 + 1 + 1 + 1 + 1, 0, none⟩ = some (.slice (some ⟨w.heap.size + 1 + 1 + 1 + 1, 0, none⟩) 2 2) := hL3.cell 0
 have q1 : w3.cell? ⟨w.heap.size + 1 + 1 + 1 + 1 + 1 + 1 + 1 + 1, 1, none⟩ = some (.slice (some ⟨w.heap.size + 1 + 1 + 1 + 1 + 1 + 1 + 1, 0, none⟩) 1 1) := hL3.cell 1
 have s0 : w3.cell? ⟨w.heap.size + 1 + 1 + 1, 0, none⟩ = some (.slice (some ⟨w.heap.size + 1, 0, none⟩) 2 2) := hK3.cell 0
 have s1 : w3.cell? ⟨w.heap.size + 1 + 1 + 1, 1, none⟩ = some (.slice (some ⟨w.heap.size + 1 + 1, 0, none⟩) 1 1) := hK3.cell 1
 have s2 : w3.cell? ⟨w.heap.size + 1 + 1 + 1, 2, none⟩ = some (.slice none 0 0) := hK3.cell 2
 clear HKy hS2 hQ2 hK2 hL2 hb3 hb3' hbP hP2 hO3 hR3 hK3 hS3
 go_wp2_with fail
 refine HMy.out.mono ?_
 rintro e w4 ⟨rfl, hb4⟩
 have hQ4 := hQ3.belowS hb4
 have hL4 := hL3.below hb4 hL3.lt
 have HB4 := Lib.hid (below_then HB3.out hb4)
 have hn0 : w4.cell? ⟨gn, 0, none⟩ = some (.int .i64 1) := (hb4.cell (p := ⟨gn, 0, none⟩) hgn).trans hn0
 have hn1 : w4.cell? ⟨gn, 1, none⟩ = some (.int .i64 2) := (hb4.cell (p := ⟨gn, 1, none⟩) hgn).trans hn1
 have hR5 := hR4.mv (S' := fun b => b < w4.heap.size) elPath_ok (fun b hb hl => ⟨hb4.block b hl, Nat.lt_of_lt_of_le hl hb4.size⟩)
 have q0 : w4.cell? ⟨w.heap.size + 1 + 1 + 1 + 1 + 1 + 1 + 1 + 1, 0, none⟩ = some (.slice (some ⟨w.heap.size + 1 + 1 + 1 + 1, 0, none⟩) 2 2) := hL4.cell 0
 have q1 : w4.cell? ⟨w.heap.size + 1 + 1 + 1 + 1 + 1 + 1 + 1 + 1, 1, none⟩ = some (.slice (some ⟨w.heap.size + 1 + 1 + 1 + 1 + 1 + 1 + 1, 0, none⟩) 1 1) := hL4.cell 1
 have hbP := LqP_below w4 w4.heap.size #[98] #[99] #[97] #[120]
 have hP2 := LqP_has w4 w4.heap.size rfl [98] [99] [97] [120]
 have HPs := Lib.hid (passes_any (hQ4.belowS hbP) hP2)
 rw [lq_pass] at HPs
 clear HMy hQ3 hL3 hb4 s0 s1 s2 hR4
 go_wp2_with fail
 refine HPs.out.mono ?_
 rintro e w5 ⟨rfl, hb5⟩
 have hb5' := below_then hbP hb5
 have hQ5 := hQ4.belowS hb5'
 have hL5 := hL4.below hb5' hL4.lt
 have HB5 := Lib.hid (below_then HB4.out hb5')
 have hR6 := hR5.mv (S' := fun b => b < w5.heap.size) elPath_ok (fun b hb hl => ⟨hb5'.block b hl, Nat.lt_of_lt_of_le hl hb5'.size⟩)
 have q0 : w5.cell? ⟨w.heap.size + 1 + 1 + 1 + 1 + 1 + 1 + 1 + 1, 0, none⟩ = some (.slice (some ⟨w.heap.size + 1 + 1 + 1 + 1, 0, none⟩) 2 2) := hL5.cell 0
 have q1 : w5.cell? ⟨w.heap.size + 1 + 1 + 1 + 1 + 1 + 1 + 1 + 1, 1, none⟩ = some (.slice (some ⟨w.heap.size + 1 + 1 + 1 + 1 + 1 + 1 + 1, 0, none⟩) 1 1) := hL5.cell 1
 clear HPs hQ4 hL4 hb5 hb5' hbP hP2 hR5 hn0 hn1
 have hbP := LqP_below w5 w5.heap.size #[98] #[99] #[97] #[121]
 have hP2 := LqP_has w5 w5.heap.size rfl [98] [99] [97] [121]
 have HPs := Lib.hid (passes_any (hQ5.belowS hbP) hP2)
 rw [lq_not] at HPs
 go_wp2_with fail
 refine HPs.out.mono ?_
 rintro e w6 ⟨rfl, hb6⟩
 have hb6' := below_then hbP hb6
 have HB6 := Lib.hid (below_then HB5.out hb6')
 have hR7 := hR6.mv (S' := fun b => b < w6.heap.size) elPath_ok (fun b hb hl => ⟨hb6'.block b hl, Nat.lt_of_lt_of_le hl hb6'.size⟩)
 obtain ⟨bk, ok, A0, n0, c0, x0, rfl, _, _, j0, hx0, he0⟩ := hR7.at1 (k := 0) (by decide)
 obtain ⟨bk', ok', A1, n1, c1, x1, e1, _, _, j1, hx1, he1⟩ := hR7.at1 (k := 1) (by decide)
 injection e1 with e1
 injection e1 with e1 e2 _
 subst e1 e2
 have h0 := he0.out
 have h1 := he1.out
 simp only [List.getElem?_cons_zero, List.getElem?_cons_succ, Option.some.injEq] at h0 h1
 subst h0 h1
 obtain rfl : n0 = 1 := hx0.len.symm
 obtain rfl : n1 = 0 := hx1.len.symm
 obtain ⟨b2, o2, us, y, rfl, _, _, _, j2, hy, hye⟩ := hx0.at_ (k := 0) (by decide)
 have h2 := hye.out
 simp only [List.getElem?_cons_zero, Option.some.injEq] at h2
 subst h2
 have hy : us = [strV [98]] := hy
 have j3 := j2 0 (strV [98]) (by rw [hy]; rfl)
 simp only [Nat.zero_mul, Nat.add_zero] at j0 j3
 replace j3 : w6.cell? ⟨b2, o2, none⟩ = some (.string ⟨#[98]⟩) := j3
 clear HPs hQ5 hL5 hb6 hb6' hbP hP2 hR6 hR7 hx0 hx1 hye hy j2 he0 he1 q0 q1
 go_wp2_with fail
 go_ret
 exact ⟨rfl, HB6.out⟩
end Go.Proofs.Ytmcccpbpijnbmaa
