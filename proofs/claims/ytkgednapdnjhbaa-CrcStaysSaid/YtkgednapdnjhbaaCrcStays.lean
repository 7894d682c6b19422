/-
  Proved: crc.Sum, crc.More, crc.Whole and crc.Bytes leave the bytes that were handed in (the first 500) as they were, and what crc.Bytes answers can be written over without touching them. No condition.
-/
import Derived.Test.YtkgednapdnjhbaaRows
import Derived.Test.YtkgednapdnjhbaaCrcD
import Derived.WalkKit
import Derived.ProofKit
import Derived.OpenShut
import Derived.ShutString
import Derived.ChangeOld
import Derived.Below
namespace Go.Proofs.Ytkgednapdnjhbaa.crcStays
open Go.ChangeShapes Go.WideShapes Go.ChangeAt Go.RowKit
open Go.ChangeMaps (open_string shut_string)
set_option linter.unusedVariables false

theorem own : ownKnob Try.prog.godebug = none := by kernel_rfl
theorem laidOut : laidOutB Try.prog = true := by kernel_rfl

def IsRow (k : IntKind) (w : World) (a : Option Addr) (len cap : Nat) (zs : List Int) : Prop :=
  (a = none ∧ len = 0 ∧ cap = 0 ∧ zs = []) ∨
  ∃ x, a = some x ∧ len ≤ cap ∧ cap ≤ maxLen ∧ zs.length = cap ∧ (∀ i, i < zs.length → w.cell? (x.add i) = some (.int k (zs.getD i 0))) ∧ ∀ n ∈ zs, (Lit.int k n).wf = true

set_option maxRecDepth 100000 in
set_option maxHeartbeats 2000000 in
theorem walk (a0 : Option Addr) (len0 cap0 : Nat) (z0 : List Int) (a1 : Int) (w : World) (w0 : IsRow .u8 w a0 len0 cap0 z0) (w1 : (Lit.int .u32 a1).wf = true) :
    Calls Try.prog 8 #[.slice a0 len0 cap0, .int .u32 a1] w fun e w' => e = .returned (.bool true) ∧ Below w.heap.size w w' := by
  obtain ⟨l0, hr0⟩ := HasB.of_row w0
  obtain ⟨h0, h1⟩ := u32_of_wf w1
  obtain ⟨s, rfl⟩ := Int.eq_ofNat_of_zero_le h0
  have hs : s < 4294967296 := by omega
  obtain ⟨i0, hi, hz0, hz1, hz2⟩ := info_parts info_u8
  go_enter Try.func8, Try.ntmps8
  go_wp2_with fail
  refine (few_any _ _ _ l0 _ _ hr0 500 (by omega)).mono ?_
  rintro e w' ⟨⟨n, rfl, hr, hn1, hn2⟩, rfl⟩
  clear hr0
  generalize l0.take (Int.toNat 500) = l at hr
  have hn : n ≤ 500 := hn2
  clear hn2 hn1
  go_wp2_with (at_builtin; refine wpList_app _ rfl _ _ 23 rfl w.heap.size 5 i0 (.int .u8 0) Try.underlying23 hi hz0 hz1 hz2 rfl _ [] rfl (OwnB.nil_ w w.heap.size 5) w.heap.size _ n _ l rfl hr (by simp; omega) (Nat.le_refl _) ?_)
  intro v1 w1' ho hg
  have hr1 := hr.grown hg (Nat.le_refl _) (fun g h => by cases h)
  have hb1 : Below w.heap.size w w1' := (Below.refl _ _).grown hg (Nat.le_refl _) (fun g h => by cases h)
  have hsz1 := hb1.size
  obtain ⟨A, m, c, rfl, hv, -⟩ := ho.formN
  clear hr ho hg
  go_wp2_with fail
  refine (sum_any _ _ _ _ _ _ hr1).mono ?_
  rintro e w' ⟨rfl, rfl⟩
  go_wp2_with fail
  refine (more_nat s hs _ _ _ _ _ _ hr1).mono ?_
  rintro e w' ⟨rfl, rfl⟩
  go_wp2_with fail
  refine (whole_any _ _ _ _ _ (hr1.more hsz1)).mono ?_
  rintro e w2 ⟨rfl, hb⟩
  have hr2 := hr1.below hb hsz1
  have hv2 := hv.below hb (Nat.le_refl _)
  have hb2 := hb1.trans (hb.mono hsz1)
  have hsz2 := hb2.size
  have hsz12 := hb.size
  clear hr1 hv hb hb1
  go_wp2_with fail
  refine (bytes_any s hs _).mono ?_
  rintro e w3 ⟨rfl, ew3⟩
  generalize hg : w2.heap.size = g at *
  have hbk : ∃ cs, Block w3 g 5 cs ∧ cs.size = 4 := ⟨_, by rw [ew3, ← hg]; exact Block.new _ _ _, by simp [le4_length]⟩
  have hb3 : Below w.heap.size w w3 := by rw [ew3]; exact hb2.alloc (by rw [hg]; exact hsz2) _
  have hr3 : HasB w3 w.heap.size a0 n cap0 l := by rw [ew3]; exact hr2.alloc (by rw [hg]; exact hsz2) _
  have hv3 : HasB w3 g A m c l := by rw [ew3]; exact (hv2.more hsz12).alloc (by rw [hg]; exact Nat.le_refl _) _
  clear ew3 hr2 hv2 hb2 hg hs h0 h1 w1
  go_wp2_with fail
  go_loopw [7] (fun i wr => ∃ k : Nat, k ≤ 4 ∧ i = .int .i64 k ∧ FourAt w g a0 n cap0 A m c l wr) (fun i _ => 4 - (intOf i).toNat)
  case atStart =>
    obtain ⟨cs, hk1, hk2⟩ := hbk
    exact ⟨0, by omega, rfl, cs, hk1, hk2, hb3, hr3, hv3⟩
  case round =>
    obtain ⟨k, hk, rfl, cs, hbl, hcs, hb, hr, hv⟩ := hrel
    have Hcs := Lib.hid hcs
    have hws := hb.size
    clear hb3 hr3 hv3
    by_cases h4 : k < 4
    · obtain ⟨u, hc⟩ : ∃ u, wr.cell? ⟨g, k, none⟩ = some u := ⟨cs[k], by rw [hbl.cell, Array.getElem?_eq_getElem]⟩
      have hf := hbl.free k
      have h2 := Lib.hid (hbl.set_ k (.int .u8 7))
      have h3 := Lib.hid (hb.setCell (p := ⟨g, k, none⟩) hsz2 (.int .u8 7))
      have h4 := Lib.hid (hr.keep (w' := wr.setCell ⟨g, k, none⟩ (.int .u8 7)) (fun b o hb' => World.cell?_setCell_other wr ⟨g, k, none⟩ ⟨b, o, none⟩ _ (fun e => by injection e; omega)))
      have h5 := Lib.hid (hv.keep (w' := wr.setCell ⟨g, k, none⟩ (.int .u8 7)) (fun b o hb' => World.cell?_setCell_other wr ⟨g, k, none⟩ ⟨b, o, none⟩ _ (fun e => by injection e; omega)))
      clear hcs hbl hb hr hv
      go_wp2_with fail
      go_roundw
      case rel => exact ⟨k + 1, by omega, by go_num, _, h2.out, by simpa using Hcs.out, h3.out, h4.out, h5.out⟩
      case measure => simp [intOf]; omega
    · have hk4 : k = 4 := by omega
      subst hk4
      go_wp2_with fail
      refine (same_any _ _ _ _ _ _ _ _ _ _ _ hv hr).mono ?_
      rintro e w5 ⟨rfl, k5, ew5⟩
      rw [show (l == l) = true from by simp]
      have hb5 : Below w.heap.size w w5 := by rw [ew5]; exact below_drewN hb _
      clear ew5 hv hr hb
      go_wp2_with fail
      refine (lives_any _).mono ?_
      rintro e w' ⟨rfl, hl⟩
      go_wp2_with fail
      go_ret
      exact ⟨rfl, hb5.trans (hl.mono hb5.size)⟩

set_option maxRecDepth 100000 in
theorem lifted (os : Os) (started : os.Started) (H : Type) (enc : TypeId × Value → H) :
    ReturnsInHanded {} Try.checked os 8 .any (Rows.crcStaysSpec.pre6 enc Try.prog Try.f8 Rows.crcStaysRow.domain false) (Rows.crcStaysSpec.post enc Try.prog Try.f8 false true false false) := by
  refine returnsInHanded_of_change (C := Try.checked) own started (by kernel_rfl) Try.func8
    (ChangeSpec.witness6 (enc := enc) (C := Try.checked) false ⟨#[], #[.slice none 0 0, .int .u32 0], []⟩ 8 (by kernel_rfl) (by kernel_rfl) (by kernel_rfl) (by kernel_rfl)) ?_
  intro W base args ds gs before hval0 hW hcnd _
  have hval : ∀ (j : Nat) t v, Try.f8.params[j]? = some t → args[j]? = some v → Value.okWide Try.prog W .any base t v := hval0
  have hW' := hW
  obtain ⟨p, q, hA0, hV, rfl, hfz, hnd⟩ := hW
  have hA : DataW.TrodAll enc Try.prog W 0 (fun _ => true) true Try.f8.params.toList args.toList ds p := hA0
  rw [Try.params8] at hA hval
  obtain ⟨v0, vs0, d0, ds0, p0, q0, hargs, rfl, rfl, h0, r0⟩ := trodAll_cons hA
  obtain ⟨v1, vs1, d1, ds1, p1, q1, rfl, rfl, rfl, h1, r1⟩ := trodAll_cons r0
  obtain ⟨rfl, rfl, rfl⟩ := trodAll_nil r1
  obtain rfl : args = #[v0, v1] := by cases args; simp_all
  obtain ⟨rfl, rfl⟩ := trodVars_none hV
  obtain ⟨a0, len0, cap0, rfl⟩ := okWide_slice Try.underlying23 (hval 0 23 v0 rfl rfl)
  have k0 := h0
  have lt0 : ∀ x ∈ p0, x.block < W.heap.size := by obtain ⟨m, hm⟩ := k0; exact DataW.trod_lt m _ _ _ hm
  obtain ⟨z0, w0⟩ : ∃ zs, IsRow .u8 W a0 len0 cap0 zs := by
    obtain ⟨fuel, hf⟩ := h0
    rcases open_ints Try.underlying23 Try.underlying5 (by kernel_rfl) hf with ⟨hcs, _⟩ | ⟨x, l, c, zs, hcs, _, hl, hm, hz, _, hcell, hwz⟩
    · simp [Value.cells] at hcs
      obtain ⟨rfl, rfl, rfl⟩ := hcs
      exact ⟨[], .inl ⟨rfl, rfl, rfl, rfl⟩⟩
    · simp [Value.cells] at hcs
      obtain ⟨rfl, rfl, rfl⟩ := hcs
      exact ⟨zs, .inr ⟨_, rfl, hl, hm, by simpa using hz, hcell, hwz⟩⟩
  obtain ⟨a1, rfl, rfl, rfl, w1⟩ := open_int Try.underlying22 (hval 1 22 v1 rfl rfl) h1
  clear hA0 hval0
  refine (walk a0 len0 cap0 z0 a1 W w0 w1).mono fun e W' ⟨he, bel⟩ => ?_
  subst he
  exact ⟨_, rfl, _, _, _, [], _, [], hW', trodAll_mk1 (shut_bool Try.underlying4 _), (trodAll_cons_mk (Below.trod laidOut (by kernel_rfl) (of_decide_eq_true (by kernel_rfl)) k0 bel lt0) (trodAll_cons_mk (shut_int Try.underlying22 w1) trodAll_mk0)), rfl, bel.frame _, fun h => by cases h⟩

theorem over : Rows.crcStaysRow.holds Try.pinned (OpenSpec.ofChange Rows.crcStaysSpec) :=
  OpenClaim.holds_of_wide 8 Try.f8 rfl rfl rfl rfl rfl rfl rfl ⟨rfl, rfl, rfl, rfl, rfl⟩ rfl rfl rfl rfl rfl (by kernel_rfl) Try.func8 (by kernel_rfl)
    (of_decide_eq_true (by kernel_rfl)) (by unfold Func.isWrapper; first | (rw [if_pos (by decide +kernel)]; kernel_rfl) | (rw [if_neg (by decide +kernel)]; exact ⟨rfl, rfl⟩))
    (fun os started H enc _ => lifted os started H enc)

theorem proved : Rows.CrcStaysSaid := over
end Go.Proofs.Ytkgednapdnjhbaa.crcStays
