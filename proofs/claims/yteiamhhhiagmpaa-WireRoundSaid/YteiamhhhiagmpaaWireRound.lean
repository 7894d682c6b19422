/-
  Proved: any number that wire.PutInt puts is got again by wire.GetInt, with just its bytes, whatever stands behind (the first 50 bytes); a part of its bytes is too short; the document's examples hold, and nothing that was handed in changes. No condition.
-/
import Derived.Test.YteiamhhhiagmpaaRows
import Derived.Test.YteiamhhhiagmpaaFew02
import Derived.Test.YteiamhhhiagmpaaWireLives
import Derived.WalkKit
import Derived.ProofKit
import Derived.OpenShut
import Derived.ShutString
import Derived.ChangeOld
import Derived.Below
namespace Go.Proofs.Yteiamhhhiagmpaa.wireRound
open Go.ChangeShapes Go.WideShapes Go.ChangeAt Go.RowKit
open Go.ChangeMaps (open_string shut_string)
set_option linter.unusedVariables false

theorem own : ownKnob Try.prog.godebug = none := by kernel_rfl
theorem laidOut : laidOutB Try.prog = true := by kernel_rfl

def IsRow (k : IntKind) (w : World) (a : Option Addr) (len cap : Nat) (zs : List Int) : Prop :=
  (a = none ∧ len = 0 ∧ cap = 0 ∧ zs = []) ∨
  ∃ x, a = some x ∧ len ≤ cap ∧ cap ≤ maxLen ∧ zs.length = cap ∧ (∀ i, i < zs.length → w.cell? (x.add i) = some (.int k (zs.getD i 0))) ∧ ∀ n ∈ zs, (Lit.int k n).wf = true

set_option maxRecDepth 100000 in
set_option maxHeartbeats 2000000 in
theorem walk (a0 : Int) (a1 : Option Addr) (len1 cap1 : Nat) (z1 : List Int) (a2 : Int) (w : World) (w0 : (Lit.int .i64 a0).wf = true) (w1 : IsRow .u8 w a1 len1 cap1 z1) (w2 : (Lit.int .i64 a2).wf = true) :
    Calls Try.prog 4 #[.int .i64 a0, .slice a1 len1 cap1, .int .i64 a2] w fun e w' => e = .returned (.bool true) ∧ Below w.heap.size w w' := by
  obtain ⟨h0, h0'⟩ := i64_of_wf w0
  obtain ⟨h2, h2'⟩ := i64_of_wf w2
  obtain ⟨lb, hrb⟩ := HasB.of_row w1
  obtain ⟨i0, hi, hz0, hz1, hz2⟩ := info_parts info_u8
  obtain ⟨L, hL⟩ : ∃ L, Hid (enc (zig a0) = L) := ⟨_, Lib.hid rfl⟩
  have HL1 : 1 ≤ L.length := by rw [← hL.out]; exact enc_pos _
  have HL10 : L.length ≤ 10 := by rw [← hL.out]; exact enc_ten (zig_lt h0 h0')
  obtain ⟨x, hx0, hx1, hx⟩ : ∃ x : Int, 0 ≤ x ∧ x ≤ 9223372036854775807 ∧ (a2 < 0 ∧ x = -(a2 + 1) ∨ 0 ≤ a2 ∧ x = a2) := by
    by_cases h : a2 < 0
    · exact ⟨-(a2 + 1), by omega, by omega, .inl ⟨h, rfl⟩⟩
    · exact ⟨a2, by omega, by omega, .inr ⟨by omega, rfl⟩⟩
  rcases hx with ⟨hneg, hxe⟩ | ⟨hneg, hxe⟩
  all_goals
    have Hxe := Lib.hid hxe
    clear hxe
    go_enter Try.func4, Try.ntmps4
    go_wp2_with fail
    refine (putInt_nil a0 h0 h0' _).mono ?_
    rw [hL.out]
    rintro e w1' ⟨v, rfl, ho, hb⟩
    obtain ⟨A, n, c, rfl, hv, _⟩ := ho.formN
    have hln := hv.len
    rw [hln] at HL1 HL10
    have Hln := Lib.hid hln
    clear hln
    have hcap := hv.cap
    have hcm := hv.capMax
    have hz := hb.size
    obtain ⟨k, hk, hkn⟩ : ∃ k : Nat, Hid (x % (n : Int) = (k : Int)) ∧ k < n := by
      have h1 := Int.emod_nonneg x (show (n : Int) ≠ 0 by omega)
      have h2 := Int.emod_lt_of_pos x (show (0 : Int) < (n : Int) by omega)
      exact ⟨(x % (n : Int)).toNat, Lib.hid (by omega), by omega⟩
    have hkr := hk.out
    rw [Hxe.out] at hkr
    have hkt : a2 < 0 → (a2 + 1).tmod (n : Int) = -(k : Int) := fun h => tmod_neg (by omega) (by first | (exfalso; omega) | rw [← hk.out, Hxe.out])
    first
      | (have hkt := hkt (by assumption); clear hkr)
      | clear hkt
    have hb1 : (0 : Int) ≤ (k : Int) := by omega
    have hb2 : (k : Int) ≤ (c : Int) := by omega
    have hn1 : ¬ (n : Int) < 1 := by omega
    have hn2 : ¬ (10 : Int) < (n : Int) := by omega
    have hT := Lib.hid (hv.take_ k (by omega))
    have HC : Hid (gN (L.take k) = 0 ∧ gK (L.take k) = 0 ∧ gE (L.take k) = 3) := Lib.hid (by rw [← hL.out]; exact g_cut h0 h0' k (by rw [hL.out, Hln.out]; exact hkn))
    go_wp2_with fail
    refine (getInt_is hT.out HC.out.1 HC.out.2.1 HC.out.2.2).mono ?_
    rintro e w' ⟨rfl, rfl⟩
    go_wp2_with fail
    refine (few_any _ _ _ _ _ _ (hrb.below hb (Nat.le_refl _)) 50 (by omega)).mono ?_
    rintro e w' ⟨⟨n2, rfl, hr2, hn3, hn4⟩, rfl⟩
    have hn5 : n2 ≤ 50 := hn4
    generalize lb.take (Int.toNat 50) = l2 at hr2
    have Hb : Hid (L.length + n2 ≤ 140737488355328) := Lib.hid (by rw [Hln.out]; omega)
    clear hn3 hn4
    go_wp2_with (at_builtin; refine wpList_app4 _ rfl _ _ 22 rfl w.heap.size 5 i0 (.int .u8 0) Try.underlying22 hi hz0 hz1 hz2 rfl _ L rfl ho w.heap.size _ n2 _ l2 rfl hr2 Hb.out hz ?_)
    intro v2 w2 ho2 hg2
    have hb2 := hb.trans (hg2.below_ hz (fun k hk => (ho.lt k hk).1))
    have hz2 := hb2.size
    obtain ⟨A2, m2, c2, rfl, hv2, _⟩ := ho2.formN
    have HG : Hid (gN (L ++ l2) = a0 ∧ gK (L ++ l2) = n ∧ gE (L ++ l2) = 0) := Lib.hid (by rw [← Hln.out, ← hL.out]; exact g_put h0 h0' l2)
    have hv2 := Lib.hid hv2
    clear ho2 hg2 ho hv hr2
    go_wp2_with fail
    refine (getInt_is hv2.out HG.out.1 HG.out.2.1 HG.out.2.2).mono ?_
    rintro e w' ⟨rfl, rfl⟩
    go_wp2_with fail
    refine (lives_any _).mono ?_
    rintro e w' ⟨rfl, hl⟩
    go_wp2_with fail
    go_ret
    exact ⟨rfl, hb2.trans (hl.mono hz2)⟩

set_option maxRecDepth 100000 in
theorem lifted (os : Os) (started : os.Started) (H : Type) (enc : TypeId × Value → H) :
    ReturnsInHanded {} Try.checked os 4 .any (Rows.wireRoundSpec.pre6 enc Try.prog Try.f4 Rows.wireRoundRow.domain false) (Rows.wireRoundSpec.post enc Try.prog Try.f4 false true false false) := by
  refine returnsInHanded_of_change (C := Try.checked) own started (by kernel_rfl) Try.func4
    (ChangeSpec.witness6 (enc := enc) (C := Try.checked) false ⟨#[], #[.int .i64 0, .slice none 0 0, .int .i64 0], []⟩ 8 (by kernel_rfl) (by kernel_rfl) (by kernel_rfl) (by kernel_rfl)) ?_
  intro W base args ds gs before hval0 hW hcnd _
  have hval : ∀ (j : Nat) t v, Try.f4.params[j]? = some t → args[j]? = some v → Value.okWide Try.prog W .any base t v := hval0
  have hW' := hW
  obtain ⟨p, q, hA0, hV, rfl, hfz, hnd⟩ := hW
  have hA : DataW.TrodAll enc Try.prog W 0 (fun _ => true) true Try.f4.params.toList args.toList ds p := hA0
  rw [Try.params4] at hA hval
  obtain ⟨v0, vs0, d0, ds0, p0, q0, hargs, rfl, rfl, h0, r0⟩ := trodAll_cons hA
  obtain ⟨v1, vs1, d1, ds1, p1, q1, rfl, rfl, rfl, h1, r1⟩ := trodAll_cons r0
  obtain ⟨v2, vs2, d2, ds2, p2, q2, rfl, rfl, rfl, h2, r2⟩ := trodAll_cons r1
  obtain ⟨rfl, rfl, rfl⟩ := trodAll_nil r2
  obtain rfl : args = #[v0, v1, v2] := by cases args; simp_all
  obtain ⟨rfl, rfl⟩ := trodVars_none hV
  obtain ⟨a0, rfl, rfl, rfl, w0⟩ := open_int Try.underlying3 (hval 0 3 v0 rfl rfl) h0
  obtain ⟨a1, len1, cap1, rfl⟩ := okWide_slice Try.underlying22 (hval 1 22 v1 rfl rfl)
  have k1 := h1
  have lt1 : ∀ x ∈ p1, x.block < W.heap.size := by obtain ⟨m, hm⟩ := k1; exact DataW.trod_lt m _ _ _ hm
  obtain ⟨z1, w1⟩ : ∃ zs, IsRow .u8 W a1 len1 cap1 zs := by
    obtain ⟨fuel, hf⟩ := h1
    rcases open_ints Try.underlying22 Try.underlying5 (by kernel_rfl) hf with ⟨hcs, _⟩ | ⟨x, l, c, zs, hcs, _, hl, hm, hz, _, hcell, hwz⟩
    · simp [Value.cells] at hcs
      obtain ⟨rfl, rfl, rfl⟩ := hcs
      exact ⟨[], .inl ⟨rfl, rfl, rfl, rfl⟩⟩
    · simp [Value.cells] at hcs
      obtain ⟨rfl, rfl, rfl⟩ := hcs
      exact ⟨zs, .inr ⟨_, rfl, hl, hm, by simpa using hz, hcell, hwz⟩⟩
  obtain ⟨a2, rfl, rfl, rfl, w2⟩ := open_int Try.underlying3 (hval 2 3 v2 rfl rfl) h2
  clear hA0 hval0
  refine (walk a0 a1 len1 cap1 z1 a2 W w0 w1 w2).mono fun e W' ⟨he, bel⟩ => ?_
  subst he
  exact ⟨_, rfl, _, _, _, [], _, [], hW', trodAll_mk1 (shut_bool Try.underlying4 _), (trodAll_cons_mk (shut_int Try.underlying3 w0) (trodAll_cons_mk (Below.trod laidOut (by kernel_rfl) (of_decide_eq_true (by kernel_rfl)) k1 bel lt1) (trodAll_cons_mk (shut_int Try.underlying3 w2) trodAll_mk0))), rfl, bel.frame _, fun h => by cases h⟩

theorem over : Rows.wireRoundRow.holds Try.pinned (OpenSpec.ofChange Rows.wireRoundSpec) :=
  OpenClaim.holds_of_wide 4 Try.f4 rfl rfl rfl rfl rfl rfl rfl ⟨rfl, rfl, rfl, rfl, rfl⟩ rfl rfl rfl rfl rfl (by kernel_rfl) Try.func4 (by kernel_rfl)
    (of_decide_eq_true (by kernel_rfl)) (by unfold Func.isWrapper; first | (rw [if_pos (by decide +kernel)]; kernel_rfl) | (rw [if_neg (by decide +kernel)]; exact ⟨rfl, rfl⟩))
    (fun os started H enc _ => lifted os started H enc)

theorem proved : Rows.WireRoundSaid := over
end Go.Proofs.Yteiamhhhiagmpaa.wireRound
