/-
  Proved: whatever bytes (the first 400) are read as a dictionary, of whatever number of levels, dict.Read answers just what the document's reader answers: the same dictionary or none, the same place and the same error; the document's examples hold, and nothing that was handed in changes. No condition.
-/
import Derived.Test.YtccdjjpkcahgfaaRows
import Derived.Test.YtccdjjpkcahgfaaDictV
import Derived.Deep.RegionHeld3
import Derived.WalkKit
import Derived.ProofKit
import Derived.OpenShut
import Derived.ShutString
import Derived.ChangeOld
import Derived.Below
namespace Go.Proofs.Ytccdjjpkcahgfaa.dictReads
open Go.ChangeShapes Go.WideShapes Go.ChangeAt Go.RowKit
open Go.ChangeMaps (open_string shut_string)
set_option linter.unusedVariables false

theorem own : ownKnob Try.prog.godebug = none := by kernel_rfl
theorem laidOut : laidOutB Try.prog = true := by kernel_rfl

def IsRow (k : IntKind) (w : World) (a : Option Addr) (len cap : Nat) (zs : List Int) : Prop :=
  (a = none ∧ len = 0 ∧ cap = 0 ∧ zs = []) ∨
  ∃ x, a = some x ∧ len ≤ cap ∧ cap ≤ maxLen ∧ zs.length = cap ∧ (∀ i, i < zs.length → w.cell? (x.add i) = some (.int k (zs.getD i 0))) ∧ ∀ n ∈ zs, (Lit.int k n).wf = true

set_option maxRecDepth 100000 in
set_option maxHeartbeats 2000000 in
theorem walk (a0 : Option Addr) (len0 cap0 : Nat) (z0 : List Int) (a1 : Int) (w : World) (w0 : IsRow .u8 w a0 len0 cap0 z0) (w1 : (Lit.int .i64 a1).wf = true) :
    Calls Try.prog 4 #[.slice a0 len0 cap0, .int .i64 a1] w fun e w' => e = .returned (.bool true) ∧ Below w.heap.size w w' := by
  obtain ⟨l0, hr0⟩ := HasB.of_row w0
  clear w0 w1
  have hcap := hr0.cap
  have hcm := hr0.capMax
  rcases Nat.lt_or_ge 400 len0 with hlt | hlt
  · obtain ⟨l, hb0⟩ : ∃ l, HasB w w.heap.size a0 400 cap0 l := ⟨_, hr0.take_ 400 (by omega)⟩
    have hgt : (400 : Int) < (len0 : Int) := by omega
    have hcp : (400 : Int) ≤ (cap0 : Int) := by omega
    clear hr0 hlt
    go_enter Try.func4, Try.ntmps4
    go_wp2_with fail
    refine (wireNew_any _ _ _ _ _ hb0 (by omega)).mono ?_
    rintro e v1 ⟨g, A', c', rfl, hr, hwg, hb⟩
    have hz := hb.size
    have hgl := hr.lt
    have hx : Rd 40 (v1.alloc (.cells #[.slice a0 400 cap0, .int .i64 0, .int .i64 0] 40)) v1.heap.size a0 400 cap0 l 0 0 :=
      ⟨Block.new _ _ _, ((hb0.below hb (Nat.le_refl _)).more hz).alloc (Nat.le_refl _) _, Nat.zero_le _, Nat.zero_le _⟩
    have hr2 : Rd 71 (v1.alloc (.cells #[.slice a0 400 cap0, .int .i64 0, .int .i64 0] 40)) g A' 400 c' l 0 0 := hr.below (below_a1 v1 _) hgl
    have hb2 : Below w.heap.size w (v1.alloc (.cells #[.slice a0 400 cap0, .int .i64 0, .int .i64 0] 40)) := hb.alloc hz _
    have K : Hid (∀ y, Below w.heap.size w y → HasB y v1.heap.size a0 400 cap0 l) := Lib.hid fun y hy => (hb0.below hy (Nat.le_refl _)).more hz
    clear hr hb hb0
    go_wp2_with fail
    generalize v1.alloc (.cells #[.slice a0 400 cap0, .int .i64 0, .int .i64 0] 40) = w2 at *
    generalize v1.heap.size = gx at *
    have hgx2 := hx.lt
    by_cases hlv : 1 ≤ a1 ∧ a1 ≤ 3
    · obtain ⟨n, rfl⟩ : ∃ n : Nat, a1 = n := ⟨a1.toNat, by omega⟩
      have hn : 1 ≤ n ∧ n ≤ 3 := by omega
      obtain ⟨X, hX⟩ : ∃ X, Hid (rdD n l 0 0 = X) := ⟨_, Lib.hid rfl⟩
      have h1 := read_any hn hr2
      have h2 := fun (W : World) (hW : Rd 40 W gx a0 400 cap0 l 0 0) => refRead_any hn hW
      rw [hX.out] at h1 h2
      obtain ⟨Q, p', e'⟩ := X
      have H2 := Lib.hid h2
      have Hx := Lib.hid hx
      clear hlv hn hX h2 hx hr2
      refine h1.mono ?_
      rintro y w3 ⟨hy, hR3, hF3⟩
      have hB3 := hb2.trans (hF3.below hb2.size hwg hb2.size)
      have hx3 := Hx.out.off hF3 (by omega) (by omega) (K.out w3 hB3)
      have hs3 := hF3.size
      have Hg : Hid (w.heap.size ≤ g) := Lib.hid hwg
      clear h1 hF3 hb2
      rcases hy with ⟨he, gd, pv, bm, rfl, hD⟩ | ⟨he, rfl⟩
      · obtain rfl : e' = 0 := he
        have HD := Lib.hid hD
        have HR := Lib.hid hR3
        have HB := Lib.hid hB3
        clear hD hR3 hB3
        go_wp2_with fail
        refine (H2.out w3 hx3).mono ?_
        rintro y w4 ⟨rfl, hf, hxF, hF4⟩
        obtain ⟨Lv, hRf⟩ := hf rfl
        have hD4 := HD.out.off hF4 hgx2
        have hB4 := HB.out.trans (hF4.below HB.out.size (by omega) HB.out.size)
        have hrF := HR.out.below (hF4.below (B := gx) (by omega) (Nat.le_refl _) (by omega)) (by omega)
        have hf1 := hxF.c1
        have HD4 := Lib.hid hD4
        have HRf := Lib.hid hRf
        have HB4 := Lib.hid hB4
        clear hf hx3 hF4 hD4 hRf hB4
        simp only at hrF hxF hf1
        go_wp2_with fail
        go_quiet ((first
          | (go_at_call 18; exact Calls.quiet_of (end_any _ _ _ _ _ _ _ _ (hrF.drewN _)))
          | (go_at_call 19; exact Calls.quiet_of (refEnd_any _ _ _ _ _ _ _ _ (hxF.drewN _)))
          | (go_at_call 17; exact quietS (at_any _ _ _ _ _ _ _ _ (hrF.drewN _)))))
        go_wp2_with fail
        refine (like_any (HD4.out.drewN _) (HRf.out.drewN _)).mono ?_
        rintro e w5 ⟨rfl, hB5⟩
        have hB6 := (below_drewN HB4.out _).trans (hB5.mono HB4.out.size)
        go_wp2_with fail
        refine (dictLives_any _).mono ?_
        rintro e w6 ⟨rfl, hB7⟩
        go_wp2_with fail
        go_ret
        exact ⟨rfl, hB6.trans (hB7.mono hB6.size)⟩
      · have he' : (e' == 0) = false := by simpa using he
        have HR := Lib.hid hR3
        have HB := Lib.hid hB3
        clear he hR3 hB3
        go_wp2_with fail
        refine (H2.out w3 hx3).mono ?_
        rintro y w4 ⟨rfl, _, hxF, hF4⟩
        have hB4 := HB.out.trans (hF4.below HB.out.size (by omega) HB.out.size)
        have hrF := HR.out.below (hF4.below (B := gx) (by omega) (Nat.le_refl _) (by omega)) (by omega)
        have hf1 := hxF.c1
        have HB4 := Lib.hid hB4
        clear hx3 hF4 hB4
        simp only at hrF hxF hf1
        rw [he']
        clear he'
        go_wp2_with fail
        go_quiet ((first
          | (go_at_call 18; exact Calls.quiet_of (end_any _ _ _ _ _ _ _ _ (hrF.drewN _)))
          | (go_at_call 19; exact Calls.quiet_of (refEnd_any _ _ _ _ _ _ _ _ (hxF.drewN _)))
          | (go_at_call 17; exact quietS (at_any _ _ _ _ _ _ _ _ (hrF.drewN _)))))
        go_wp2_with fail
        refine (dictLives_any _).mono ?_
        rintro e w6 ⟨rfl, hB7⟩
        go_wp2_with fail
        go_ret
        exact ⟨rfl, (below_drewN HB4.out _).trans (hB7.mono HB4.out.size)⟩
    · have h1 := read_no (w := w2) hlv (gr := g)
      have h2 := refRead_no (w := w2) hlv (gr := gx)
      clear hlv
      refine h1.mono ?_
      rintro y w3 ⟨rfl, rfl⟩
      go_wp2_with fail
      refine h2.mono ?_
      rintro y w4 ⟨⟨r, rfl⟩, hB3⟩
      have hrF := hr2.below hB3 (by omega)
      have hxF := hx.below hB3 hgx2
      have hB4 := hb2.trans (hB3.mono hb2.size)
      have hf1 := hxF.c1
      have HB4 := Lib.hid hB4
      clear h1 h2 hB4 hB3 hr2 hx hb2
      go_wp2_with fail
      go_quiet ((first
        | (go_at_call 18; exact Calls.quiet_of (end_any _ _ _ _ _ _ _ _ (hrF.drewN _)))
        | (go_at_call 19; exact Calls.quiet_of (refEnd_any _ _ _ _ _ _ _ _ (hxF.drewN _)))
        | (go_at_call 17; exact quietS (at_any _ _ _ _ _ _ _ _ (hrF.drewN _)))))
      go_wp2_with fail
      refine (dictLives_any _).mono ?_
      rintro e w6 ⟨rfl, hB7⟩
      go_wp2_with fail
      go_ret
      exact ⟨rfl, (below_drewN HB4.out _).trans (hB7.mono HB4.out.size)⟩
  · obtain ⟨l, hb0⟩ : ∃ l, HasB w w.heap.size a0 len0 cap0 l := ⟨l0, hr0⟩
    have hgt : ¬ (400 : Int) < (len0 : Int) := by omega
    have hcp := hcap
    clear hr0 hlt
    go_enter Try.func4, Try.ntmps4
    go_wp2_with fail
    refine (wireNew_any _ _ _ _ _ hb0 (by omega)).mono ?_
    rintro e v1 ⟨g, A', c', rfl, hr, hwg, hb⟩
    have hz := hb.size
    have hgl := hr.lt
    have hx : Rd 40 (v1.alloc (.cells #[.slice a0 len0 cap0, .int .i64 0, .int .i64 0] 40)) v1.heap.size a0 len0 cap0 l 0 0 :=
      ⟨Block.new _ _ _, ((hb0.below hb (Nat.le_refl _)).more hz).alloc (Nat.le_refl _) _, Nat.zero_le _, Nat.zero_le _⟩
    have hr2 : Rd 71 (v1.alloc (.cells #[.slice a0 len0 cap0, .int .i64 0, .int .i64 0] 40)) g A' len0 c' l 0 0 := hr.below (below_a1 v1 _) hgl
    have hb2 : Below w.heap.size w (v1.alloc (.cells #[.slice a0 len0 cap0, .int .i64 0, .int .i64 0] 40)) := hb.alloc hz _
    have K : Hid (∀ y, Below w.heap.size w y → HasB y v1.heap.size a0 len0 cap0 l) := Lib.hid fun y hy => (hb0.below hy (Nat.le_refl _)).more hz
    clear hr hb hb0
    go_wp2_with fail
    generalize v1.alloc (.cells #[.slice a0 len0 cap0, .int .i64 0, .int .i64 0] 40) = w2 at *
    generalize v1.heap.size = gx at *
    have hgx2 := hx.lt
    by_cases hlv : 1 ≤ a1 ∧ a1 ≤ 3
    · obtain ⟨n, rfl⟩ : ∃ n : Nat, a1 = n := ⟨a1.toNat, by omega⟩
      have hn : 1 ≤ n ∧ n ≤ 3 := by omega
      obtain ⟨X, hX⟩ : ∃ X, Hid (rdD n l 0 0 = X) := ⟨_, Lib.hid rfl⟩
      have h1 := read_any hn hr2
      have h2 := fun (W : World) (hW : Rd 40 W gx a0 len0 cap0 l 0 0) => refRead_any hn hW
      rw [hX.out] at h1 h2
      obtain ⟨Q, p', e'⟩ := X
      have H2 := Lib.hid h2
      have Hx := Lib.hid hx
      clear hlv hn hX h2 hx hr2
      refine h1.mono ?_
      rintro y w3 ⟨hy, hR3, hF3⟩
      have hB3 := hb2.trans (hF3.below hb2.size hwg hb2.size)
      have hx3 := Hx.out.off hF3 (by omega) (by omega) (K.out w3 hB3)
      have hs3 := hF3.size
      have Hg : Hid (w.heap.size ≤ g) := Lib.hid hwg
      clear h1 hF3 hb2
      rcases hy with ⟨he, gd, pv, bm, rfl, hD⟩ | ⟨he, rfl⟩
      · obtain rfl : e' = 0 := he
        have HD := Lib.hid hD
        have HR := Lib.hid hR3
        have HB := Lib.hid hB3
        clear hD hR3 hB3
        go_wp2_with fail
        refine (H2.out w3 hx3).mono ?_
        rintro y w4 ⟨rfl, hf, hxF, hF4⟩
        obtain ⟨Lv, hRf⟩ := hf rfl
        have hD4 := HD.out.off hF4 hgx2
        have hB4 := HB.out.trans (hF4.below HB.out.size (by omega) HB.out.size)
        have hrF := HR.out.below (hF4.below (B := gx) (by omega) (Nat.le_refl _) (by omega)) (by omega)
        have hf1 := hxF.c1
        have HD4 := Lib.hid hD4
        have HRf := Lib.hid hRf
        have HB4 := Lib.hid hB4
        clear hf hx3 hF4 hD4 hRf hB4
        simp only at hrF hxF hf1
        go_wp2_with fail
        go_quiet ((first
          | (go_at_call 18; exact Calls.quiet_of (end_any _ _ _ _ _ _ _ _ (hrF.drewN _)))
          | (go_at_call 19; exact Calls.quiet_of (refEnd_any _ _ _ _ _ _ _ _ (hxF.drewN _)))
          | (go_at_call 17; exact quietS (at_any _ _ _ _ _ _ _ _ (hrF.drewN _)))))
        go_wp2_with fail
        refine (like_any (HD4.out.drewN _) (HRf.out.drewN _)).mono ?_
        rintro e w5 ⟨rfl, hB5⟩
        have hB6 := (below_drewN HB4.out _).trans (hB5.mono HB4.out.size)
        go_wp2_with fail
        refine (dictLives_any _).mono ?_
        rintro e w6 ⟨rfl, hB7⟩
        go_wp2_with fail
        go_ret
        exact ⟨rfl, hB6.trans (hB7.mono hB6.size)⟩
      · have he' : (e' == 0) = false := by simpa using he
        have HR := Lib.hid hR3
        have HB := Lib.hid hB3
        clear he hR3 hB3
        go_wp2_with fail
        refine (H2.out w3 hx3).mono ?_
        rintro y w4 ⟨rfl, _, hxF, hF4⟩
        have hB4 := HB.out.trans (hF4.below HB.out.size (by omega) HB.out.size)
        have hrF := HR.out.below (hF4.below (B := gx) (by omega) (Nat.le_refl _) (by omega)) (by omega)
        have hf1 := hxF.c1
        have HB4 := Lib.hid hB4
        clear hx3 hF4 hB4
        simp only at hrF hxF hf1
        rw [he']
        clear he'
        go_wp2_with fail
        go_quiet ((first
          | (go_at_call 18; exact Calls.quiet_of (end_any _ _ _ _ _ _ _ _ (hrF.drewN _)))
          | (go_at_call 19; exact Calls.quiet_of (refEnd_any _ _ _ _ _ _ _ _ (hxF.drewN _)))
          | (go_at_call 17; exact quietS (at_any _ _ _ _ _ _ _ _ (hrF.drewN _)))))
        go_wp2_with fail
        refine (dictLives_any _).mono ?_
        rintro e w6 ⟨rfl, hB7⟩
        go_wp2_with fail
        go_ret
        exact ⟨rfl, (below_drewN HB4.out _).trans (hB7.mono HB4.out.size)⟩
    · have h1 := read_no (w := w2) hlv (gr := g)
      have h2 := refRead_no (w := w2) hlv (gr := gx)
      clear hlv
      refine h1.mono ?_
      rintro y w3 ⟨rfl, rfl⟩
      go_wp2_with fail
      refine h2.mono ?_
      rintro y w4 ⟨⟨r, rfl⟩, hB3⟩
      have hrF := hr2.below hB3 (by omega)
      have hxF := hx.below hB3 hgx2
      have hB4 := hb2.trans (hB3.mono hb2.size)
      have hf1 := hxF.c1
      have HB4 := Lib.hid hB4
      clear h1 h2 hB4 hB3 hr2 hx hb2
      go_wp2_with fail
      go_quiet ((first
        | (go_at_call 18; exact Calls.quiet_of (end_any _ _ _ _ _ _ _ _ (hrF.drewN _)))
        | (go_at_call 19; exact Calls.quiet_of (refEnd_any _ _ _ _ _ _ _ _ (hxF.drewN _)))
        | (go_at_call 17; exact quietS (at_any _ _ _ _ _ _ _ _ (hrF.drewN _)))))
      go_wp2_with fail
      refine (dictLives_any _).mono ?_
      rintro e w6 ⟨rfl, hB7⟩
      go_wp2_with fail
      go_ret
      exact ⟨rfl, (below_drewN HB4.out _).trans (hB7.mono HB4.out.size)⟩

set_option maxRecDepth 100000 in
theorem lifted (os : Os) (started : os.Started) (H : Type) (enc : TypeId × Value → H) :
    ReturnsInHanded {} Try.checked os 4 .any (Rows.dictReadsSpec.pre6 enc Try.prog Try.f4 Rows.dictReadsRow.domain false) (Rows.dictReadsSpec.post enc Try.prog Try.f4 false true false false) := by
  refine returnsInHanded_of_change (C := Try.checked) own started (by kernel_rfl) Try.func4
    (ChangeSpec.witness6 (enc := enc) (C := Try.checked) false ⟨#[], #[.slice none 0 0, .int .i64 0], []⟩ 8 (by kernel_rfl) (by kernel_rfl) (by kernel_rfl) (by kernel_rfl)) ?_
  intro W base args ds gs before hval0 hW hcnd _
  have hval : ∀ (j : Nat) t v, Try.f4.params[j]? = some t → args[j]? = some v → Value.okWide Try.prog W .any base t v := hval0
  have hW' := hW
  obtain ⟨p, q, hA0, hV, rfl, hfz, hnd⟩ := hW
  have hA : DataW.TrodAll enc Try.prog W 0 (fun _ => true) true Try.f4.params.toList args.toList ds p := hA0
  rw [Try.params4] at hA hval
  obtain ⟨v0, vs0, d0, ds0, p0, q0, hargs, rfl, rfl, h0, r0⟩ := trodAll_cons hA
  obtain ⟨v1, vs1, d1, ds1, p1, q1, rfl, rfl, rfl, h1, r1⟩ := trodAll_cons r0
  obtain ⟨rfl, rfl, rfl⟩ := trodAll_nil r1
  obtain rfl : args = #[v0, v1] := by cases args; simp_all
  obtain ⟨rfl, rfl⟩ := trodVars_none hV
  obtain ⟨a0, len0, cap0, rfl⟩ := okWide_slice Try.underlying35 (hval 0 35 v0 rfl rfl)
  have k0 := h0
  have lt0 : ∀ x ∈ p0, x.block < W.heap.size := by obtain ⟨m, hm⟩ := k0; exact DataW.trod_lt m _ _ _ hm
  obtain ⟨z0, w0⟩ : ∃ zs, IsRow .u8 W a0 len0 cap0 zs := by
    obtain ⟨fuel, hf⟩ := h0
    rcases open_ints Try.underlying35 Try.underlying5 (by kernel_rfl) hf with ⟨hcs, _⟩ | ⟨x, l, c, zs, hcs, _, hl, hm, hz, _, hcell, hwz⟩
    · simp [Value.cells] at hcs
      obtain ⟨rfl, rfl, rfl⟩ := hcs
      exact ⟨[], .inl ⟨rfl, rfl, rfl, rfl⟩⟩
    · simp [Value.cells] at hcs
      obtain ⟨rfl, rfl, rfl⟩ := hcs
      exact ⟨zs, .inr ⟨_, rfl, hl, hm, by simpa using hz, hcell, hwz⟩⟩
  obtain ⟨a1, rfl, rfl, rfl, w1⟩ := open_int Try.underlying3 (hval 1 3 v1 rfl rfl) h1
  clear hA0 hval0
  refine (walk a0 len0 cap0 z0 a1 W w0 w1).mono fun e W' ⟨he, bel⟩ => ?_
  subst he
  exact ⟨_, rfl, _, _, _, [], _, [], hW', trodAll_mk1 (shut_bool Try.underlying4 _), (trodAll_cons_mk (Below.trod laidOut (by kernel_rfl) (of_decide_eq_true (by kernel_rfl)) k0 bel lt0) (trodAll_cons_mk (shut_int Try.underlying3 w1) trodAll_mk0)), rfl, bel.frame _, fun h => by cases h⟩

theorem over : Rows.dictReadsRow.holds Try.pinned (OpenSpec.ofChange Rows.dictReadsSpec) :=
  OpenClaim.holds_of_wide 4 Try.f4 rfl rfl rfl rfl rfl rfl rfl ⟨rfl, rfl, rfl, rfl, rfl⟩ rfl rfl rfl rfl rfl (by kernel_rfl) Try.func4 (by kernel_rfl)
    (of_decide_eq_true (by kernel_rfl)) (by unfold Func.isWrapper; first | (rw [if_pos (by decide +kernel)]; kernel_rfl) | (rw [if_neg (by decide +kernel)]; exact ⟨rfl, rfl⟩))
    (fun os started H enc _ => lifted os started H enc)

theorem proved : Rows.DictReadsSaid := over
end Go.Proofs.Ytccdjjpkcahgfaa.dictReads
