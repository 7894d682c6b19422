/-
  Proved: of any ints (the first 60), wide.Total answers just the document's total, or api.ErrRange where that may not be, held against the document's rows of bits; the document's examples hold, and nothing that was handed in changes. No condition.
-/
import Derived.Test.YtdajjphgehbacaaRows
import Derived.Test.YtdajjphgehbacaaWideLives
import Derived.Deep.RegionHeld3
import Derived.WalkKit
import Derived.ProofKit
import Derived.OpenShut
import Derived.ShutString
import Derived.ChangeOld
import Derived.Below
namespace Go.Proofs.Ytdajjphgehbacaa.wideTotals
open Go.ChangeShapes Go.WideShapes Go.ChangeAt Go.RowKit
open Go.ChangeMaps (open_string shut_string)
set_option linter.unusedVariables false

theorem own : ownKnob Try.prog.godebug = none := by kernel_rfl
theorem laidOut : laidOutB Try.prog = true := by kernel_rfl

def IsRow (k : IntKind) (w : World) (a : Option Addr) (len cap : Nat) (zs : List Int) : Prop :=
  (a = none ∧ len = 0 ∧ cap = 0 ∧ zs = []) ∨
  ∃ x, a = some x ∧ len ≤ cap ∧ cap ≤ maxLen ∧ zs.length = cap ∧ (∀ i, i < zs.length → w.cell? (x.add i) = some (.int k (zs.getD i 0))) ∧ ∀ n ∈ zs, (Lit.int k n).wf = true

set_option maxRecDepth 100000 in
set_option maxHeartbeats 2000000 in
theorem walk (a0 : Option Addr) (len0 cap0 : Nat) (z0 : List Int) (w : World) (w0 : IsRow .i64 w a0 len0 cap0 z0) :
    Calls Try.prog 6 #[.slice a0 len0 cap0] w fun e w' => e = .returned (.bool true) ∧ Below w.heap.size w w' := by
  obtain ⟨l0, hr0, hx0⟩ := HasI.of_row w0
  have hn0 := hr0.lenMax
  obtain ⟨m, l, hr, hx, hm, hcase⟩ : ∃ (m : Nat) (l : List Int), HasI w w.heap.size a0 m cap0 l ∧ (∀ x ∈ l, -9223372036854775808 ≤ x ∧ x ≤ 9223372036854775807) ∧ m ≤ 60 ∧ ((m = 60 ∧ (60 : Int) < (len0 : Int) ∧ (60 : Int) ≤ (cap0 : Int)) ∨ (m = len0 ∧ ¬ (60 : Int) < (len0 : Int))) := by
    by_cases h : 60 < len0
    · exact ⟨60, l0.take 60, hr0.take_ 60 (by omega), fun x hx => hx0 x (List.mem_of_mem_take hx), Nat.le_refl _, .inl ⟨rfl, by omega, by have := hr0.cap; omega⟩⟩
    · exact ⟨len0, l0, hr0, hx0, by omega, .inr ⟨rfl, by omega⟩⟩
  obtain ⟨z, hz⟩ : ∃ z, z = sumI l := ⟨_, rfl⟩
  have hfar : wFar z := by
    have h1 := sumI_bounds hx
    have h2 := hr.len
    unfold wFar
    omega
  obtain ⟨H, L, x, hs⟩ : ∃ H L x : Int, (wIn z ∧ H = z / 4294967296 ∧ L = z % 4294967296 ∧ x = 0) ∨ (¬ wIn z ∧ H = 0 ∧ L = 0 ∧ x = 14) := by
    by_cases h : wIn z
    · exact ⟨_, _, _, .inl ⟨h, rfl, rfl, rfl⟩⟩
    · exact ⟨_, _, _, .inr ⟨h, rfl, rfl, rfl⟩⟩
  have HS := Lib.hid hs
  have HZ := Lib.hid hz
  have HF := Lib.hid hfar
  have HX := Lib.hid hx
  clear hs hz hfar hx hx0 w0 hr0
  rcases hcase with ⟨rfl, c1, c2⟩ | ⟨rfl, c1⟩
  all_goals
    go_enter Try.func6, Try.ntmps6
    go_wp2_with fail
    refine (total_any _ _ _ l _ hr (by omega) HX.out H L x (by rw [← HZ.out]; exact HS.out)).mono ?_
    rintro e v1 ⟨rfl, hb1⟩
    have hr1 := (hr.belowS hb1).allocS (.cells #[.int .i64 H, .int .i64 L] 23)
    have hbl := Block.new v1 23 #[.int .i64 H, .int .i64 L]
    have hbe := below_then hb1 (below_a1 v1 (.cells #[.int .i64 H, .int .i64 L] 23))
    clear hb1 hr
    go_wp2_with fail
    generalize v1.alloc (.cells #[.int .i64 H, .int .i64 L] 23) = v2 at hr1 hbl hbe ⊢
    have K : Hid (∀ y, Below v2.heap.size v2 y → y.cell? ⟨v1.heap.size, 0, none⟩ = some (.int .i64 H) ∧ y.cell? ⟨v1.heap.size, 1, none⟩ = some (.int .i64 L)) :=
      Lib.hid fun y hy => ⟨(hbl.below hy hbl.lt).cell 0, (hbl.below hy hbl.lt).cell 1⟩
    clear hbl
    go_region_held3 (fun w' => w'.cell? ⟨v1.heap.size, 0, none⟩ = some (.int .i64 H) ∧ w'.cell? ⟨v1.heap.size, 1, none⟩ = some (.int .i64 L))
      (first
        | exact K.out _ hd2
        | exact K.out _ hd1
        | exact K.out _ (Below.drew (Below.refl _ _)))
      (first
        | (go_at_call 22; refine (refTotal_any _ _ _ l _ hr1.drew HX.out).mono ?_; rintro e y1 ⟨⟨u1, rfl, ho1⟩, hb1⟩; obtain ⟨g1, k1, rfl, hrow1, -, -⟩ := bits_shape ho1; have hd1 := below_then (below_drawn (w := v2) 1) hb1)
        | (go_at_call 19; refine (right_any _ 0 _ z _ (by rw [HZ.out]; exact hrow1) HF.out H L x HS.out).mono ?_; rintro e y2 ⟨rfl, hb2⟩; have hd2 := below_then hd1 hb2))
    have hbe2 := below_then hbe hd2
    clear hd1 hd2 hb1 hb2 ho1 hrow1 K hr1 hbe
    go_wp2_with fail
    refine (lives_any _).mono ?_
    rintro e y7 ⟨rfl, hb7⟩
    have hd7 := below_then hbe2 hb7
    go_wp2_with fail
    go_ret
    exact ⟨rfl, hd7⟩

set_option maxRecDepth 100000 in
theorem lifted (os : Os) (started : os.Started) (H : Type) (enc : TypeId × Value → H) :
    ReturnsInHanded {} Try.checked os 6 .any (Rows.wideTotalsSpec.pre6 enc Try.prog Try.f6 Rows.wideTotalsRow.domain false) (Rows.wideTotalsSpec.post enc Try.prog Try.f6 false true false false) := by
  refine returnsInHanded_of_change (C := Try.checked) own started (by kernel_rfl) Try.func6
    (ChangeSpec.witness6 (enc := enc) (C := Try.checked) false ⟨#[], #[.slice none 0 0], []⟩ 8 (by kernel_rfl) (by kernel_rfl) (by kernel_rfl) (by kernel_rfl)) ?_
  intro W base args ds gs before hval0 hW hcnd _
  have hval : ∀ (j : Nat) t v, Try.f6.params[j]? = some t → args[j]? = some v → Value.okWide Try.prog W .any base t v := hval0
  have hW' := hW
  obtain ⟨p, q, hA0, hV, rfl, hfz, hnd⟩ := hW
  have hA : DataW.TrodAll enc Try.prog W 0 (fun _ => true) true Try.f6.params.toList args.toList ds p := hA0
  rw [Try.params6] at hA hval
  obtain ⟨v0, vs0, d0, ds0, p0, q0, hargs, rfl, rfl, h0, r0⟩ := trodAll_cons hA
  obtain ⟨rfl, rfl, rfl⟩ := trodAll_nil r0
  obtain rfl : args = #[v0] := by cases args; simp_all
  obtain ⟨rfl, rfl⟩ := trodVars_none hV
  obtain ⟨a0, len0, cap0, rfl⟩ := okWide_slice Try.underlying29 (hval 0 29 v0 rfl rfl)
  have k0 := h0
  have lt0 : ∀ x ∈ p0, x.block < W.heap.size := by obtain ⟨m, hm⟩ := k0; exact DataW.trod_lt m _ _ _ hm
  obtain ⟨z0, w0⟩ : ∃ zs, IsRow .i64 W a0 len0 cap0 zs := by
    obtain ⟨fuel, hf⟩ := h0
    rcases open_ints Try.underlying29 Try.underlying3 (by kernel_rfl) hf with ⟨hcs, _⟩ | ⟨x, l, c, zs, hcs, _, hl, hm, hz, _, hcell, hwz⟩
    · simp [Value.cells] at hcs
      obtain ⟨rfl, rfl, rfl⟩ := hcs
      exact ⟨[], .inl ⟨rfl, rfl, rfl, rfl⟩⟩
    · simp [Value.cells] at hcs
      obtain ⟨rfl, rfl, rfl⟩ := hcs
      exact ⟨zs, .inr ⟨_, rfl, hl, hm, by simpa using hz, hcell, hwz⟩⟩
  clear hA0 hval0
  refine (walk a0 len0 cap0 z0 W w0).mono fun e W' ⟨he, bel⟩ => ?_
  subst he
  exact ⟨_, rfl, _, _, _, [], _, [], hW', trodAll_mk1 (shut_bool Try.underlying4 _), (trodAll_cons_mk (Below.trod laidOut (by kernel_rfl) (of_decide_eq_true (by kernel_rfl)) k0 bel lt0) trodAll_mk0), rfl, bel.frame _, fun h => by cases h⟩

theorem over : Rows.wideTotalsRow.holds Try.pinned (OpenSpec.ofChange Rows.wideTotalsSpec) :=
  OpenClaim.holds_of_wide 6 Try.f6 rfl rfl rfl rfl rfl rfl rfl ⟨rfl, rfl, rfl, rfl, rfl⟩ rfl rfl rfl rfl rfl (by kernel_rfl) Try.func6 (by kernel_rfl)
    (of_decide_eq_true (by kernel_rfl)) (by unfold Func.isWrapper; first | (rw [if_pos (by decide +kernel)]; kernel_rfl) | (rw [if_neg (by decide +kernel)]; exact ⟨rfl, rfl⟩))
    (fun os started H enc _ => lifted os started H enc)

theorem proved : Rows.WideTotalsSaid := over
end Go.Proofs.Ytdajjphgehbacaa.wideTotals
