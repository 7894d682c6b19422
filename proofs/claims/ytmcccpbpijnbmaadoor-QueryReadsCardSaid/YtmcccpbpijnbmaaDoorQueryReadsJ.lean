/-
  Proved: whatever bytes (the first 400) are read, query.Read reads just the query of the document, or none where it says so, at the same place and with the same error as the document's reader; the examples of the document hold, and nothing that was handed in changes. No condition.
-/
import Derived.Test.YtmcccpbpijnbmaaDoorJ1
import Derived.Test.YtmcccpbpijnbmaaDoorJ18
import Derived.Test.YtmcccpbpijnbmaaDoorJ32
import Derived.Test.YtmcccpbpijnbmaaDoorJ36
import Derived.Test.YtmcccpbpijnbmaaDoorJ39
import Derived.Test.YtmcccpbpijnbmaaDoorJ40
import Derived.Below
import Derived.ChangeOld
import Derived.LaidMore
import Derived.Lay
import Derived.OpenShut
import Derived.ProofKit
import Derived.SevenTiedAt
import Derived.ShutString
import Derived.Stop.Joined
import Derived.Test.YtmcccpbpijnbmaaDoorCards
import Derived.Test.YtmcccpbpijnbmaaDoorTie
import Derived.WalkKit
namespace Go.Proofs.YtmcccpbpijnbmaaDoor.queryReads
open Go.ChangeShapes Go.WideShapes Go.ChangeAt Go.RowKit
open Go.ChangeMaps (open_string shut_string)
set_option linter.unusedVariables false

theorem own : ownKnob Tryd.prog.godebug = none := by kernel_rfl
theorem laidOut : laidOutB Tryd.prog = true := by kernel_rfl

def IsRow (k : IntKind) (w : World) (a : Option Addr) (len cap : Nat) (zs : List Int) : Prop :=
  (a = none ∧ len = 0 ∧ cap = 0 ∧ zs = []) ∨
  ∃ x, a = some x ∧ len ≤ cap ∧ cap ≤ maxLen ∧ zs.length = cap ∧ (∀ i, i < zs.length → w.cell? (x.add i) = some (.int k (zs.getD i 0))) ∧ ∀ n ∈ zs, (Lit.int k n).wf = true

set_option maxRecDepth 100000 in
set_option maxHeartbeats 2000000 in
theorem walk (a0 : Option Addr) (len0 cap0 : Nat) (z0 : List Int) (w : World) (w0 : IsRow .u8 w a0 len0 cap0 z0) :
    Calls Tryd.prog 3 #[.slice a0 len0 cap0] w fun e w' => e = .returned (.bool true) ∧ Below w.heap.size w w' := by
  obtain ⟨l0, hr0⟩ := HasB.of_row w0
  have hcap := hr0.cap
  have hcm := hr0.capMax
  by_cases hgt : (400 : Int) < (len0 : Int)
  · obtain ⟨l, hb0⟩ : ∃ l, HasB w w.heap.size a0 400 cap0 l := ⟨_, hr0.take_ 400 (by omega)⟩
    have hcp : (400 : Int) ≤ (cap0 : Int) := by omega
    clear hr0
    go_enter Tryd.func3, Tryd.ntmps3
    go_wp2_with fail
    refine (wireNew_any _ _ _ _ _ hb0 (by omega)).mono ?_
    rintro e v1 ⟨g, A', c', rfl, hr, hwg, hb⟩
    have hz := hb.size
    have hgl := hr.lt
    have hx : Rd 28 (v1.alloc (.cells #[.slice a0 400 cap0, .int .i64 0, .int .i64 0] 28)) v1.heap.size a0 400 cap0 l 0 0 :=
      ⟨Block.new _ _ _, ((hb0.below hb (Nat.le_refl _)).more hz).alloc (Nat.le_refl _) _, Nat.zero_le _, Nat.zero_le _⟩
    have hr2 : Rd 53 (v1.alloc (.cells #[.slice a0 400 cap0, .int .i64 0, .int .i64 0] 28)) g A' 400 c' l 0 0 := hr.below (below_a1 v1 _) hgl
    have hb2 : Below w.heap.size w (v1.alloc (.cells #[.slice a0 400 cap0, .int .i64 0, .int .i64 0] 28)) := hb.alloc hz _
    have K : Hid (∀ y, Below w.heap.size w y → HasB y v1.heap.size a0 400 cap0 l) := Lib.hid fun y hy => (hb0.below hy (Nat.le_refl _)).more hz
    have hsz : v1.heap.size < (v1.alloc (.cells #[.slice a0 400 cap0, .int .i64 0, .int .i64 0] 28)).heap.size := by simp
    clear hr hb hb0
    go_wp2_with fail
    generalize v1.alloc (.cells #[.slice a0 400 cap0, .int .i64 0, .int .i64 0] 28) = w2 at *
    generalize v1.heap.size = gx at *
    obtain ⟨X, hX⟩ : ∃ X, Hid (rdQ l 0 0 = X) := ⟨_, Lib.hid rfl⟩
    have h1 := readQ_any hr2
    have h2 := fun (W : World) (hW : Rd 28 W gx a0 400 cap0 l 0 0) => refReadQ_any hW
    rw [hX.out] at h1 h2
    obtain ⟨q, p', e'⟩ := X
    have H1 := Lib.hid h1
    have H2 := Lib.hid h2
    have Hx := Lib.hid hx
    have hgx := hx.lt
    clear h1 h2 hx hr2
    refine H1.out.mono ?_
    rintro y w3 ⟨A1, n1, c1, A2, n2, c2, rfl, hQ3, hR3, hG3⟩
    have hb3 := hb2.trans (below_gr hG3 hwg hb2.size)
    have hx3 := Hx.out.other hG3 (by omega) (K.out w3 hb3)
    have hz3 := hG3.size
    have hbx := below_a1 w3 (.cells #[.slice A1 n1 c1, .slice A2 n2 c2] 32)
    have hX4 := Block.new w3 32 #[.slice A1 n1 c1, .slice A2 n2 c2]
    have hQ4 := hQ3.belowS hbx
    have hR4 := hR3.below hbx hR3.lt
    have hx4 := hx3.below hbx hx3.lt
    have hb4 := hb3.alloc hb3.size (.cells #[.slice A1 n1 c1, .slice A2 n2 c2] 32)
    have hz4 : w3.heap.size < (w3.alloc (.cells #[.slice A1 n1 c1, .slice A2 n2 c2] 32)).heap.size := by simp
    clear H1 hQ3 hb2 hR3 hx3 hb3 hbx hG3 Hx
    go_wp2_with fail
    generalize w3.alloc (.cells #[.slice A1 n1 c1, .slice A2 n2 c2] 32) = w4 at *
    refine (H2.out w4 hx4).mono ?_
    rintro y w5 ⟨B1, m1, d1, B2, m2, d2, rfl, hQ5, hx5, hG5⟩
    have hb5 := hb4.trans (below_gr hG5 (by omega) hb4.size)
    have hr5 := hR4.grown hG5 (fun k hk => by injection hk with hk; omega)
    have hX5 := hX4.grown hG5 (fun k => by injection k with k; omega)
    have hP5 : HasQ w5 (fun k => w2.heap.size ≤ k) A1 n1 c1 A2 n2 c2 q := hQ4.mv (Mv.grown hG5 (fun b hb e => by injection e with e; omega))
    have hby := below_a1 w5 (.cells #[.slice B1 m1 d1, .slice B2 m2 d2] 32)
    have hY6 := Block.new w5 32 #[.slice B1 m1 d1, .slice B2 m2 d2]
    have hX6 := hX5.below hby hX5.lt
    have hP6 := hP5.belowS hby
    have hQ6 := hQ5.belowS hby
    have hr6 := hr5.below hby hr5.lt
    have hx6 := hx5.below hby hx5.lt
    have hb6 := hb5.alloc hb5.size (.cells #[.slice B1 m1 d1, .slice B2 m2 d2] 32)
    clear H2 hx4 hb4 hR4 hX4 hQ4 hG5 hX5 hP5 hby hQ5 hr5 hx5 hb5
    have x0 : (w5.alloc (.cells #[.slice B1 m1 d1, .slice B2 m2 d2] 32)).cell? ⟨w3.heap.size, 0, none⟩ = some (.slice A1 n1 c1) := hX6.cell 0
    have x1 : (w5.alloc (.cells #[.slice B1 m1 d1, .slice B2 m2 d2] 32)).cell? ⟨w3.heap.size, 1, none⟩ = some (.slice A2 n2 c2) := hX6.cell 1
    have y0 : (w5.alloc (.cells #[.slice B1 m1 d1, .slice B2 m2 d2] 32)).cell? ⟨w5.heap.size, 0, none⟩ = some (.slice B1 m1 d1) := hY6.cell 0
    have y1 : (w5.alloc (.cells #[.slice B1 m1 d1, .slice B2 m2 d2] 32)).cell? ⟨w5.heap.size, 1, none⟩ = some (.slice B2 m2 d2) := hY6.cell 1
    have HSM := Lib.hid (sameQ_yes hP6 hQ6)
    clear hP6 hQ6 hX6 hY6
    go_wp2_with fail
    generalize w5.alloc (.cells #[.slice B1 m1 d1, .slice B2 m2 d2] 32) = w6 at *
    refine HSM.out.mono ?_
    rintro y w7 ⟨rfl, hb7'⟩
    have hr7 := hr6.below hb7' hr6.lt
    have hx7 := hx6.below hb7' hx6.lt
    have hb7 := hb6.trans (hb7'.mono hb6.size)
    clear HSM hr6 hx6 hb6 hb7' x0 x1 y0 y1
    have k1 : ∀ y : Bel w7, y.w.cell? ⟨gx, 1, none⟩ = some (.int .i64 (p' : Int)) := fun y => (hx7.below y.b hx7.lt).c1
    have k2 : ∀ y : Bel w7, y.w.cell? ⟨gx, 2, none⟩ = some (.int .i64 (e' : Int)) := fun y => (hx7.below y.b hx7.lt).c2
    have HA := Lib.hid fun (y : Bel w7) => y.calls fun W hw => toBB (at_any W g A' 400 c' l p' e' (hr7.below hw hr7.lt))
    have HE := Lib.hid fun (y : Bel w7) => y.calls fun W hw => toBD (end_any W g A' 400 c' l p' e' (hr7.below hw hr7.lt))
    have HEX := Lib.hid fun (y : Bel w7) => y.calls fun W hw => toBD (refEnd_any W gx a0 400 cap0 l p' e' (hx7.below hw hx7.lt))
    have HL := Lib.hid fun (y : Bel w7) => y.calls fun W hw => qryLives_any W
    obtain ⟨z, hz9⟩ : ∃ z, Hid (endE 400 p' e' = z) := ⟨_, Lib.hid rfl⟩
    rw [hz9.out] at HE HEX
    have q1 : ((p' : Int) == (p' : Int)) = true := by simp
    have q2 : ((z : Int) == (z : Int)) = true := by simp
    clear hr7 hx7 hz9
    go_wp2_with fail
    refine wp_region_below (by kernel_rfl) (by kernel_rfl) ?_
    repeat (go_big_quiet_step (first | (go_at_call 9; exact HA.out _) | (go_at_call 10; exact HE.out _) | (go_at_call 11; exact HEX.out _) | (go_at_call 12; exact HL.out _)))
    refine wpQuiet_nil ?_
    rintro _ ⟨⟨w8, hb8⟩, rfl⟩
    have HF := Lib.hid (hb7.trans (hb8.mono hb7.size))
    clear HA HE HEX HL k1 k2 hb8 hb7
    go_wp2_with fail
    go_ret
    exact ⟨rfl, HF.out⟩
  · have hb0 := hr0
    clear hr0
    go_enter Tryd.func3, Tryd.ntmps3
    go_wp2_with fail
    refine (wireNew_any _ _ _ _ _ hb0 (by omega)).mono ?_
    rintro e v1 ⟨g, A', c', rfl, hr, hwg, hb⟩
    have hz := hb.size
    have hgl := hr.lt
    have hx : Rd 28 (v1.alloc (.cells #[.slice a0 len0 cap0, .int .i64 0, .int .i64 0] 28)) v1.heap.size a0 len0 cap0 l0 0 0 :=
      ⟨Block.new _ _ _, ((hb0.below hb (Nat.le_refl _)).more hz).alloc (Nat.le_refl _) _, Nat.zero_le _, Nat.zero_le _⟩
    have hr2 : Rd 53 (v1.alloc (.cells #[.slice a0 len0 cap0, .int .i64 0, .int .i64 0] 28)) g A' len0 c' l0 0 0 := hr.below (below_a1 v1 _) hgl
    have hb2 : Below w.heap.size w (v1.alloc (.cells #[.slice a0 len0 cap0, .int .i64 0, .int .i64 0] 28)) := hb.alloc hz _
    have K : Hid (∀ y, Below w.heap.size w y → HasB y v1.heap.size a0 len0 cap0 l0) := Lib.hid fun y hy => (hb0.below hy (Nat.le_refl _)).more hz
    have hsz : v1.heap.size < (v1.alloc (.cells #[.slice a0 len0 cap0, .int .i64 0, .int .i64 0] 28)).heap.size := by simp
    clear hr hb hb0
    go_wp2_with fail
    generalize v1.alloc (.cells #[.slice a0 len0 cap0, .int .i64 0, .int .i64 0] 28) = w2 at *
    generalize v1.heap.size = gx at *
    obtain ⟨X, hX⟩ : ∃ X, Hid (rdQ l0 0 0 = X) := ⟨_, Lib.hid rfl⟩
    have h1 := readQ_any hr2
    have h2 := fun (W : World) (hW : Rd 28 W gx a0 len0 cap0 l0 0 0) => refReadQ_any hW
    rw [hX.out] at h1 h2
    obtain ⟨q, p', e'⟩ := X
    have H1 := Lib.hid h1
    have H2 := Lib.hid h2
    have Hx := Lib.hid hx
    have hgx := hx.lt
    clear h1 h2 hx hr2
    refine H1.out.mono ?_
    rintro y w3 ⟨A1, n1, c1, A2, n2, c2, rfl, hQ3, hR3, hG3⟩
    have hb3 := hb2.trans (below_gr hG3 hwg hb2.size)
    have hx3 := Hx.out.other hG3 (by omega) (K.out w3 hb3)
    have hz3 := hG3.size
    have hbx := below_a1 w3 (.cells #[.slice A1 n1 c1, .slice A2 n2 c2] 32)
    have hX4 := Block.new w3 32 #[.slice A1 n1 c1, .slice A2 n2 c2]
    have hQ4 := hQ3.belowS hbx
    have hR4 := hR3.below hbx hR3.lt
    have hx4 := hx3.below hbx hx3.lt
    have hb4 := hb3.alloc hb3.size (.cells #[.slice A1 n1 c1, .slice A2 n2 c2] 32)
    have hz4 : w3.heap.size < (w3.alloc (.cells #[.slice A1 n1 c1, .slice A2 n2 c2] 32)).heap.size := by simp
    clear H1 hQ3 hb2 hR3 hx3 hb3 hbx hG3 Hx
    go_wp2_with fail
    generalize w3.alloc (.cells #[.slice A1 n1 c1, .slice A2 n2 c2] 32) = w4 at *
    refine (H2.out w4 hx4).mono ?_
    rintro y w5 ⟨B1, m1, d1, B2, m2, d2, rfl, hQ5, hx5, hG5⟩
    have hb5 := hb4.trans (below_gr hG5 (by omega) hb4.size)
    have hr5 := hR4.grown hG5 (fun k hk => by injection hk with hk; omega)
    have hX5 := hX4.grown hG5 (fun k => by injection k with k; omega)
    have hP5 : HasQ w5 (fun k => w2.heap.size ≤ k) A1 n1 c1 A2 n2 c2 q := hQ4.mv (Mv.grown hG5 (fun b hb e => by injection e with e; omega))
    have hby := below_a1 w5 (.cells #[.slice B1 m1 d1, .slice B2 m2 d2] 32)
    have hY6 := Block.new w5 32 #[.slice B1 m1 d1, .slice B2 m2 d2]
    have hX6 := hX5.below hby hX5.lt
    have hP6 := hP5.belowS hby
    have hQ6 := hQ5.belowS hby
    have hr6 := hr5.below hby hr5.lt
    have hx6 := hx5.below hby hx5.lt
    have hb6 := hb5.alloc hb5.size (.cells #[.slice B1 m1 d1, .slice B2 m2 d2] 32)
    clear H2 hx4 hb4 hR4 hX4 hQ4 hG5 hX5 hP5 hby hQ5 hr5 hx5 hb5
    have x0 : (w5.alloc (.cells #[.slice B1 m1 d1, .slice B2 m2 d2] 32)).cell? ⟨w3.heap.size, 0, none⟩ = some (.slice A1 n1 c1) := hX6.cell 0
    have x1 : (w5.alloc (.cells #[.slice B1 m1 d1, .slice B2 m2 d2] 32)).cell? ⟨w3.heap.size, 1, none⟩ = some (.slice A2 n2 c2) := hX6.cell 1
    have y0 : (w5.alloc (.cells #[.slice B1 m1 d1, .slice B2 m2 d2] 32)).cell? ⟨w5.heap.size, 0, none⟩ = some (.slice B1 m1 d1) := hY6.cell 0
    have y1 : (w5.alloc (.cells #[.slice B1 m1 d1, .slice B2 m2 d2] 32)).cell? ⟨w5.heap.size, 1, none⟩ = some (.slice B2 m2 d2) := hY6.cell 1
    have HSM := Lib.hid (sameQ_yes hP6 hQ6)
    clear hP6 hQ6 hX6 hY6
    go_wp2_with fail
    generalize w5.alloc (.cells #[.slice B1 m1 d1, .slice B2 m2 d2] 32) = w6 at *
    refine HSM.out.mono ?_
    rintro y w7 ⟨rfl, hb7'⟩
    have hr7 := hr6.below hb7' hr6.lt
    have hx7 := hx6.below hb7' hx6.lt
    have hb7 := hb6.trans (hb7'.mono hb6.size)
    clear HSM hr6 hx6 hb6 hb7' x0 x1 y0 y1
    have k1 : ∀ y : Bel w7, y.w.cell? ⟨gx, 1, none⟩ = some (.int .i64 (p' : Int)) := fun y => (hx7.below y.b hx7.lt).c1
    have k2 : ∀ y : Bel w7, y.w.cell? ⟨gx, 2, none⟩ = some (.int .i64 (e' : Int)) := fun y => (hx7.below y.b hx7.lt).c2
    have HA := Lib.hid fun (y : Bel w7) => y.calls fun W hw => toBB (at_any W g A' len0 c' l0 p' e' (hr7.below hw hr7.lt))
    have HE := Lib.hid fun (y : Bel w7) => y.calls fun W hw => toBD (end_any W g A' len0 c' l0 p' e' (hr7.below hw hr7.lt))
    have HEX := Lib.hid fun (y : Bel w7) => y.calls fun W hw => toBD (refEnd_any W gx a0 len0 cap0 l0 p' e' (hx7.below hw hx7.lt))
    have HL := Lib.hid fun (y : Bel w7) => y.calls fun W hw => qryLives_any W
    obtain ⟨z, hz9⟩ : ∃ z, Hid (endE len0 p' e' = z) := ⟨_, Lib.hid rfl⟩
    rw [hz9.out] at HE HEX
    have q1 : ((p' : Int) == (p' : Int)) = true := by simp
    have q2 : ((z : Int) == (z : Int)) = true := by simp
    clear hr7 hx7 hz9
    go_wp2_with fail
    refine wp_region_below (by kernel_rfl) (by kernel_rfl) ?_
    repeat (go_big_quiet_step (first | (go_at_call 9; exact HA.out _) | (go_at_call 10; exact HE.out _) | (go_at_call 11; exact HEX.out _) | (go_at_call 12; exact HL.out _)))
    refine wpQuiet_nil ?_
    rintro _ ⟨⟨w8, hb8⟩, rfl⟩
    have HF := Lib.hid (hb7.trans (hb8.mono hb7.size))
    clear HA HE HEX HL k1 k2 hb8 hb7
    go_wp2_with fail
    go_ret
    exact ⟨rfl, HF.out⟩

set_option maxRecDepth 100000 in
theorem lifted (os : Os) (started : os.Started) (H : Type) (enc : TypeId × Value → H) :
    ReturnsInHanded {} Tryd.checked os 3 .any (fun w args => (Rows.queryReadsSpec.pre enc Tryd.prog Tryd.f3 Rows.queryReadsRow.domain false w args ∧ laidMetH Tryd.prog Rows.queryReadsRow.laid w) ∧ sizedMet enc Tryd.prog Tryd.f3 (OpenSpec.ofChange Rows.queryReadsSpec) false w args) (Rows.queryReadsSpec.post enc Tryd.prog Tryd.f3 false true false false) := by
  refine returnsInHanded_of_change_and (C := Tryd.checked) (X := fun w _ => laidMetH Tryd.prog Rows.queryReadsRow.laid w) (fun _ _ _ hh h => h.of_heap hh) own started (by kernel_rfl) Tryd.func3
    (ChangeSpec.witness_shaped (enc := enc) (C := Tryd.checked) (os := os) (X := fun w _ => laidMetH Tryd.prog Rows.queryReadsRow.laid w) false (World.laidAll Tryd.prog os Rows.queryReadsRow.laid) #[.slice none 0 0] 8 (World.laidAll_os _ _ _)
      (World.shaped_of_ZipB (by kernel_rfl) (by kernel_rfl)) (by kernel_rfl) (by kernel_rfl) (by kernel_rfl)
      (by rw [MakeChecks.laidMetH_plain _ _ _ (by kernel_rfl)]; exact laidMet_laidAll _ (by kernel_rfl) (by kernel_rfl))) ?_
  intro W base args ds gs before hval0 hW hcnd _ hL _
  have hval : ∀ (j : Nat) t v, Tryd.f3.params[j]? = some t → args[j]? = some v → Value.okWide Tryd.prog W .any base t v := hval0
  have hW' := hW
  obtain ⟨p, q, hA0, hV, rfl, hfz, hnd⟩ := hW
  have hA : DataW.TrodAll enc Tryd.prog W 0 (fun _ => true) true Tryd.f3.params.toList args.toList ds p := hA0
  rw [Tryd.params3] at hA hval
  obtain ⟨v0, vs0, d0, ds0, p0, q0, hargs, rfl, rfl, h0, r0⟩ := trodAll_cons hA
  obtain ⟨rfl, rfl, rfl⟩ := trodAll_nil r0
  obtain rfl : args = #[v0] := by cases args; simp_all
  obtain ⟨rfl, rfl⟩ := trodVars_none hV
  obtain ⟨a0, len0, cap0, rfl⟩ := okWide_slice Tryd.underlying22 (hval 0 22 v0 rfl rfl)
  have k0 := h0
  have lt0 : ∀ x ∈ p0, x.block < W.heap.size := by obtain ⟨m, hm⟩ := k0; exact DataW.trod_lt m _ _ _ hm
  obtain ⟨z0, w0⟩ : ∃ zs, IsRow .u8 W a0 len0 cap0 zs := by
    obtain ⟨fuel, hf⟩ := h0
    rcases open_ints Tryd.underlying22 Tryd.underlying5 (by kernel_rfl) hf with ⟨hcs, _⟩ | ⟨x, l, c, zs, hcs, _, hl, hm, hz, _, hcell, hwz⟩
    · simp [Value.cells] at hcs
      obtain ⟨rfl, rfl, rfl⟩ := hcs
      exact ⟨[], .inl ⟨rfl, rfl, rfl, rfl⟩⟩
    · simp [Value.cells] at hcs
      obtain ⟨rfl, rfl, rfl⟩ := hcs
      exact ⟨zs, .inr ⟨_, rfl, hl, hm, by simpa using hz, hcell, hwz⟩⟩
  clear hA0 hval0
  refine (walk a0 len0 cap0 z0 W w0).mono fun e W' ⟨he, bel⟩ => ?_
  subst he
  exact ⟨_, rfl, _, _, _, [], _, [], hW', trodAll_mk1 (shut_bool Tryd.underlying4 _), (trodAll_cons_mk (Below.trod laidOut (by kernel_rfl) (of_decide_eq_true (by kernel_rfl)) k0 bel lt0) trodAll_mk0), rfl, bel.frame _, fun h => by cases h⟩

theorem over : Rows.queryReadsRow.holds Tryd.pinned (OpenSpec.ofChange Rows.queryReadsSpec) :=
  OpenClaim.holds_of_wide 3 Tryd.f3 rfl rfl rfl rfl rfl rfl rfl ⟨rfl, rfl, rfl, rfl, rfl⟩ rfl rfl rfl rfl rfl (by kernel_rfl) Tryd.func3 (by kernel_rfl)
    (of_decide_eq_true (by kernel_rfl)) (by unfold Func.isWrapper; first | (rw [if_pos (by decide +kernel)]; kernel_rfl) | (rw [if_neg (by decide +kernel)]; exact ⟨rfl, rfl⟩))
    (fun os started H enc _ => lifted os started H enc)

theorem proved : Rows.QueryReadsCardSaid :=
  Claim7.holds_tied_plain_at .later [] [.data, .pinned] true (true, "d455eff5acda1c6c3baee406db2b03b423eec8ef486f4fb91fb26df432e0a980") false over (fun _ h => by cases h) (by kernel_rfl) (fun _ h => by cases h) queryReads_row_tie rfl ⟨rfl, rfl⟩ (by kernel_rfl) rfl
    (fun f fn hf hfn => by
      obtain rfl : f = 3 := Option.some.inj ((show Tryd.prog.funcNamed "tesseract/tesseractlaw12.QueryReads" = some 3 by kernel_rfl).symm.trans hf) |>.symm
      obtain rfl : fn = Tryd.f3 := (Option.some.inj (Tryd.func3.symm.trans hfn)).symm
      exact ⟨by kernel_rfl, fun j t ht => by
        rw [Tryd.params3] at ht
        have hm : t ∈ [22] := by simpa using Array.mem_of_getElem? ht
        have hall : ([22].all fun u => !Tryd.prog.wantsStandIn u) = true := by kernel_rfl
        exact (show Tryd.prog.wantsStandIn t = false by simpa using List.all_eq_true.1 hall t hm)⟩)
    (by kernel_rfl)
end Go.Proofs.YtmcccpbpijnbmaaDoor.queryReads
