/-
  Proved: whatever bytes (the first 500) are read as a cuboid, of whatever width and measures, cuboid.Read answers just what the document's reader answers: the same cuboid or none, the same place and the same error; the document's examples hold, and nothing that was handed in is changed. No condition.
-/
import Derived.Test.YteifhgcjmjihgaaGreatJ45
import Derived.Below
import Derived.ChangeOld
import Derived.Deep.RegionHeld3
import Derived.OpenShut
import Derived.ProofKit
import Derived.ShutString
import Derived.Test.YteifhgcjmjihgaaGreatRows
import Derived.WalkKit
namespace Go.Proofs.YteifhgcjmjihgaaGreat.cuboidReads
open Go.ChangeShapes Go.WideShapes Go.ChangeAt Go.RowKit
open Go.ChangeMaps (open_string shut_string)
set_option linter.unusedVariables false

theorem own : ownKnob Tryz.prog.godebug = none := by kernel_rfl
theorem laidOut : laidOutB Tryz.prog = true := by kernel_rfl

def IsRow (k : IntKind) (w : World) (a : Option Addr) (len cap : Nat) (zs : List Int) : Prop :=
  (a = none ∧ len = 0 ∧ cap = 0 ∧ zs = []) ∨
  ∃ x, a = some x ∧ len ≤ cap ∧ cap ≤ maxLen ∧ zs.length = cap ∧ (∀ i, i < zs.length → w.cell? (x.add i) = some (.int k (zs.getD i 0))) ∧ ∀ n ∈ zs, (Lit.int k n).wf = true

set_option maxRecDepth 100000 in
set_option maxHeartbeats 2000000 in
theorem walk (a0 : Option Addr) (len0 cap0 : Nat) (z0 : List Int) (a1 : Int) (a2 : Int) (w : World) (w0 : IsRow .u8 w a0 len0 cap0 z0) (w1 : (Lit.int .i64 a1).wf = true) (w2 : (Lit.int .i64 a2).wf = true) :
    Calls Tryz.prog 5 #[.slice a0 len0 cap0, .int .i64 a1, .int .i64 a2] w fun e w' => e = .returned (.bool true) ∧ Below w.heap.size w w' := by
  obtain ⟨l0, hr0⟩ := HasB.of_row w0
  clear w0 w1 w2
  have hcap := hr0.cap
  have hcm := hr0.capMax
  rcases Nat.lt_or_ge 500 len0 with hlt | hlt
  · obtain ⟨l, hb0⟩ : ∃ l, HasB w w.heap.size a0 500 cap0 l := ⟨_, hr0.take_ 500 (by omega)⟩
    have hgt : (500 : Int) < (len0 : Int) := by omega
    have hcp : (500 : Int) ≤ (cap0 : Int) := by omega
    clear hr0 hlt
    go_enter Tryz.func5, Tryz.ntmps5
    go_wp2_with fail

    refine (wireNew_any _ _ _ _ _ hb0 (by omega)).mono ?_
    rintro e v1 ⟨g, A', c', rfl, hr, hwg, hb⟩
    have hz := hb.size
    have hgl := hr.lt
    have hx : Rd 49 (v1.alloc (.cells #[.slice a0 500 cap0, .int .i64 0, .int .i64 0] 49)) v1.heap.size a0 500 cap0 l 0 0 :=
      ⟨Block.new _ _ _, ((hb0.below hb (Nat.le_refl _)).more hz).alloc (Nat.le_refl _) _, Nat.zero_le _, Nat.zero_le _⟩
    have hr2 : Rd 94 (v1.alloc (.cells #[.slice a0 500 cap0, .int .i64 0, .int .i64 0] 49)) g A' 500 c' l 0 0 := hr.grown (row := none) (World.grownBy_alloc v1 _ none) (fun k e => by cases e)
    have hb2 : Below w.heap.size w (v1.alloc (.cells #[.slice a0 500 cap0, .int .i64 0, .int .i64 0] 49)) := hb.alloc hz _
    have K : Hid (∀ y, Below w.heap.size w y → HasB y v1.heap.size a0 500 cap0 l) := Lib.hid fun y hy => (hb0.below hy (Nat.le_refl _)).more hz
    have hwx : w.heap.size ≤ v1.heap.size := hz
    clear hr hb hb0 hz
    go_wp2_with fail
    generalize v1.alloc (.cells #[.slice a0 500 cap0, .int .i64 0, .int .i64 0] 49) = w2 at *
    generalize v1.heap.size = gx at *
    have hgx2 := hx.lt
    by_cases hlv : 1 ≤ a1 ∧ a1 ≤ 3 ∧ 1 ≤ a2 ∧ a2 ≤ 2
    · obtain ⟨W, rfl⟩ : ∃ n : Nat, a1 = n := ⟨a1.toNat, by omega⟩
      obtain ⟨m, rfl⟩ : ∃ n : Nat, a2 = n := ⟨a2.toNat, by omega⟩
      have hW1 : 1 ≤ W := by omega
      have hW3 : W ≤ 3 := by omega
      have hm1 : 1 ≤ m := by omega
      have hm2 : m ≤ 2 := by omega
      obtain ⟨X, hX⟩ : ∃ X, Hid (rdC W m l 0 0 = X) := ⟨_, Lib.hid rfl⟩
      have h1 := cubRead_yes hW1 hW3 hm1 hm2 hr2
      have h2 := fun (V : World) (hV : Rd 49 V gx a0 500 cap0 l 0 0) => refReadK_any hW1 hW3 hm1 hm2 hV
      rw [hX.out] at h1 h2
      obtain ⟨Q, p', e'⟩ := X
      have H2 := Lib.hid h2
      have Hx := Lib.hid hx
      have Hb2 := Lib.hid hb2
      clear hlv h2 hx hr2 hb2
      refine h1.mono ?_
      rintro y w3 hy
      obtain _ | Dd := Q
      · obtain ⟨rfl, hR3, hG3⟩ := hy.no
        have hB3 := below_grown_new Hb2.out hG3 hwg
        have H2c := Lib.hid (H2.out w3 (Hx.out.beside hG3 (by omega) (K.out w3 hB3)))
        have HB3 := Lib.hid hB3
        have HR3 := Lib.hid hR3
        clear h1 hy hR3 hG3 hB3 H2
        go_wp2_with fail
        refine H2c.out.mono ?_
        rintro y w4 ht
        obtain ⟨⟨d, rfl⟩, hxF, hG4⟩ := ht.no
        have HrF := Lib.hid (HR3.out.grown hG4 (fun k e => by injection e with e; omega))
        have HB4 := Lib.hid (below_grown_new HB3.out hG4 (by omega))
        have HxF := Lib.hid hxF
        have hf1 := hxF.c1
        clear ht hxF hG4 H2c
        go_wp2_with fail
        go_quiet ((first
          | (go_at_call 22; exact Calls.quiet_of (end_any _ _ _ _ _ _ _ _ (HrF.out.drewN _)))
          | (go_at_call 23; exact Calls.quiet_of (refEnd_any _ _ _ _ _ _ _ _ (HxF.out.drewN _)))
          | (go_at_call 21; exact quietS (at_any _ _ _ _ _ _ _ _ (HrF.out.drewN _)))))

        have HBq := Lib.hid (below_drewN HB4.out nq)
        generalize w4.drewN nq = w5 at HBq ⊢
        clear hf1
        go_wp2_with fail
        refine (cubLives_any _).mono ?_
        rintro y wz ⟨rfl, hBz⟩
        have HBz := Lib.hid (below_then HBq.out hBz)
        clear hBz
        go_wp2_with fail
        go_ret
        exact ⟨rfl, HBz.out⟩

      · obtain ⟨⟨gd, bd, rfl, hC3, hgd, hbd⟩, _, hR3, hG3⟩ := hy.yes
        have hB3 := below_grown_new Hb2.out hG3 hwg
        have H2c := Lib.hid (H2.out w3 (Hx.out.beside hG3 (by omega) (K.out w3 hB3)))
        have HB3 := Lib.hid hB3
        have HR3 := Lib.hid hR3
        have HC3 := Lib.hid hC3
        have Hgd := Lib.hid (And.intro hgd hbd)
        clear h1 hy hR3 hG3 hB3 H2 hC3 hgd hbd
        go_wp2_with fail
        refine H2c.out.mono ?_
        rintro y w4 ht
        obtain ⟨⟨d, Ad, nd, cd, rfl, hq4⟩, hxF, hG4⟩ := ht.yes
        have HrF := Lib.hid (HR3.out.grown hG4 (fun k e => by injection e with e; omega))
        have HC4 := Lib.hid (HC3.out.kept hG4 (fun e => by injection e with e; have := Hgd.out.1; omega) (fun e => by injection e with e; have := Hgd.out.2; omega))
        have HQ4 := Lib.hid hq4
        have HB4 := Lib.hid (below_grown_new HB3.out hG4 (by omega))
        have HxF := Lib.hid hxF
        have hf1 := hxF.c1
        clear ht hxF hG4 H2c hq4 HC3
        go_wp2_with fail
        go_quiet ((first
          | (go_at_call 22; exact Calls.quiet_of (end_any _ _ _ _ _ _ _ _ (HrF.out.drewN _)))
          | (go_at_call 23; exact Calls.quiet_of (refEnd_any _ _ _ _ _ _ _ _ (HxF.out.drewN _)))
          | (go_at_call 21; exact quietS (at_any _ _ _ _ _ _ _ _ (HrF.out.drewN _)))))

        have HBq := Lib.hid (And.intro (below_drewN HB4.out nq) (And.intro (HC4.out.drewN nq) (HQ4.out.belowS (below_drewN (Below.refl _ w4) nq))))
        generalize w4.drewN nq = w5 at HBq ⊢
        clear hf1
        have hlk := Lib.hid (like_any HBq.out.2.1 HBq.out.2.2)
        go_wp2_with fail
        refine hlk.out.mono ?_
        rintro e w6 ⟨rfl, hb6⟩
        have HB6 := Lib.hid (HBq.out.1.trans (hb6.mono HBq.out.1.size))
        clear hlk hb6
        go_wp2_with fail
        refine (cubLives_any _).mono ?_
        rintro y wz ⟨rfl, hBz⟩
        have HBz := Lib.hid (below_then HB6.out hBz)
        clear hBz
        go_wp2_with fail
        go_ret
        exact ⟨rfl, HBz.out⟩

    · have h1 := cubRead_no (w := w2) (gr := g) hlv
      have h2 := refReadK_no (w := w2) (gr := gx) hlv
      clear hlv
      refine h1.mono ?_
      rintro y w3 ⟨rfl, rfl⟩
      go_wp2_with fail
      refine h2.mono ?_
      rintro y w4 ⟨⟨d, rfl⟩, hB3⟩
      have HrF := Lib.hid (hr2.grown (grown_of hB3 none) (fun k e => by cases e))
      have HxF := Lib.hid (hx.grown (grown_of hB3 none) (fun k e => by cases e))
      have hf1 := HxF.out.c1
      have HB4 := Lib.hid (hb2.trans (hB3.mono hb2.size))
      clear h1 h2 hB3 hr2 hx hb2
      go_wp2_with fail
      go_quiet ((first
        | (go_at_call 22; exact Calls.quiet_of (end_any _ _ _ _ _ _ _ _ (HrF.out.drewN _)))
        | (go_at_call 23; exact Calls.quiet_of (refEnd_any _ _ _ _ _ _ _ _ (HxF.out.drewN _)))
        | (go_at_call 21; exact quietS (at_any _ _ _ _ _ _ _ _ (HrF.out.drewN _)))))

      have HBq := Lib.hid (below_drewN HB4.out nq)
      generalize w4.drewN nq = w5 at HBq ⊢
      clear hf1
      go_wp2_with fail
      refine (cubLives_any _).mono ?_
      rintro y wz ⟨rfl, hBz⟩
      have HBz := Lib.hid (below_then HBq.out hBz)
      clear hBz
      go_wp2_with fail
      go_ret
      exact ⟨rfl, HBz.out⟩
  · obtain ⟨l, hb0⟩ : ∃ l, HasB w w.heap.size a0 len0 cap0 l := ⟨l0, hr0⟩
    have hgt : ¬ (500 : Int) < (len0 : Int) := by omega
    have hcp := hcap
    clear hr0 hlt
    go_enter Tryz.func5, Tryz.ntmps5
    go_wp2_with fail

    refine (wireNew_any _ _ _ _ _ hb0 (by omega)).mono ?_
    rintro e v1 ⟨g, A', c', rfl, hr, hwg, hb⟩
    have hz := hb.size
    have hgl := hr.lt
    have hx : Rd 49 (v1.alloc (.cells #[.slice a0 len0 cap0, .int .i64 0, .int .i64 0] 49)) v1.heap.size a0 len0 cap0 l 0 0 :=
      ⟨Block.new _ _ _, ((hb0.below hb (Nat.le_refl _)).more hz).alloc (Nat.le_refl _) _, Nat.zero_le _, Nat.zero_le _⟩
    have hr2 : Rd 94 (v1.alloc (.cells #[.slice a0 len0 cap0, .int .i64 0, .int .i64 0] 49)) g A' len0 c' l 0 0 := hr.grown (row := none) (World.grownBy_alloc v1 _ none) (fun k e => by cases e)
    have hb2 : Below w.heap.size w (v1.alloc (.cells #[.slice a0 len0 cap0, .int .i64 0, .int .i64 0] 49)) := hb.alloc hz _
    have K : Hid (∀ y, Below w.heap.size w y → HasB y v1.heap.size a0 len0 cap0 l) := Lib.hid fun y hy => (hb0.below hy (Nat.le_refl _)).more hz
    have hwx : w.heap.size ≤ v1.heap.size := hz
    clear hr hb hb0 hz
    go_wp2_with fail
    generalize v1.alloc (.cells #[.slice a0 len0 cap0, .int .i64 0, .int .i64 0] 49) = w2 at *
    generalize v1.heap.size = gx at *
    have hgx2 := hx.lt
    by_cases hlv : 1 ≤ a1 ∧ a1 ≤ 3 ∧ 1 ≤ a2 ∧ a2 ≤ 2
    · obtain ⟨W, rfl⟩ : ∃ n : Nat, a1 = n := ⟨a1.toNat, by omega⟩
      obtain ⟨m, rfl⟩ : ∃ n : Nat, a2 = n := ⟨a2.toNat, by omega⟩
      have hW1 : 1 ≤ W := by omega
      have hW3 : W ≤ 3 := by omega
      have hm1 : 1 ≤ m := by omega
      have hm2 : m ≤ 2 := by omega
      obtain ⟨X, hX⟩ : ∃ X, Hid (rdC W m l 0 0 = X) := ⟨_, Lib.hid rfl⟩
      have h1 := cubRead_yes hW1 hW3 hm1 hm2 hr2
      have h2 := fun (V : World) (hV : Rd 49 V gx a0 len0 cap0 l 0 0) => refReadK_any hW1 hW3 hm1 hm2 hV
      rw [hX.out] at h1 h2
      obtain ⟨Q, p', e'⟩ := X
      have H2 := Lib.hid h2
      have Hx := Lib.hid hx
      have Hb2 := Lib.hid hb2
      clear hlv h2 hx hr2 hb2
      refine h1.mono ?_
      rintro y w3 hy
      obtain _ | Dd := Q
      · obtain ⟨rfl, hR3, hG3⟩ := hy.no
        have hB3 := below_grown_new Hb2.out hG3 hwg
        have H2c := Lib.hid (H2.out w3 (Hx.out.beside hG3 (by omega) (K.out w3 hB3)))
        have HB3 := Lib.hid hB3
        have HR3 := Lib.hid hR3
        clear h1 hy hR3 hG3 hB3 H2
        go_wp2_with fail
        refine H2c.out.mono ?_
        rintro y w4 ht
        obtain ⟨⟨d, rfl⟩, hxF, hG4⟩ := ht.no
        have HrF := Lib.hid (HR3.out.grown hG4 (fun k e => by injection e with e; omega))
        have HB4 := Lib.hid (below_grown_new HB3.out hG4 (by omega))
        have HxF := Lib.hid hxF
        have hf1 := hxF.c1
        clear ht hxF hG4 H2c
        go_wp2_with fail
        go_quiet ((first
          | (go_at_call 22; exact Calls.quiet_of (end_any _ _ _ _ _ _ _ _ (HrF.out.drewN _)))
          | (go_at_call 23; exact Calls.quiet_of (refEnd_any _ _ _ _ _ _ _ _ (HxF.out.drewN _)))
          | (go_at_call 21; exact quietS (at_any _ _ _ _ _ _ _ _ (HrF.out.drewN _)))))

        have HBq := Lib.hid (below_drewN HB4.out nq)
        generalize w4.drewN nq = w5 at HBq ⊢
        clear hf1
        go_wp2_with fail
        refine (cubLives_any _).mono ?_
        rintro y wz ⟨rfl, hBz⟩
        have HBz := Lib.hid (below_then HBq.out hBz)
        clear hBz
        go_wp2_with fail
        go_ret
        exact ⟨rfl, HBz.out⟩

      · obtain ⟨⟨gd, bd, rfl, hC3, hgd, hbd⟩, _, hR3, hG3⟩ := hy.yes
        have hB3 := below_grown_new Hb2.out hG3 hwg
        have H2c := Lib.hid (H2.out w3 (Hx.out.beside hG3 (by omega) (K.out w3 hB3)))
        have HB3 := Lib.hid hB3
        have HR3 := Lib.hid hR3
        have HC3 := Lib.hid hC3
        have Hgd := Lib.hid (And.intro hgd hbd)
        clear h1 hy hR3 hG3 hB3 H2 hC3 hgd hbd
        go_wp2_with fail
        refine H2c.out.mono ?_
        rintro y w4 ht
        obtain ⟨⟨d, Ad, nd, cd, rfl, hq4⟩, hxF, hG4⟩ := ht.yes
        have HrF := Lib.hid (HR3.out.grown hG4 (fun k e => by injection e with e; omega))
        have HC4 := Lib.hid (HC3.out.kept hG4 (fun e => by injection e with e; have := Hgd.out.1; omega) (fun e => by injection e with e; have := Hgd.out.2; omega))
        have HQ4 := Lib.hid hq4
        have HB4 := Lib.hid (below_grown_new HB3.out hG4 (by omega))
        have HxF := Lib.hid hxF
        have hf1 := hxF.c1
        clear ht hxF hG4 H2c hq4 HC3
        go_wp2_with fail
        go_quiet ((first
          | (go_at_call 22; exact Calls.quiet_of (end_any _ _ _ _ _ _ _ _ (HrF.out.drewN _)))
          | (go_at_call 23; exact Calls.quiet_of (refEnd_any _ _ _ _ _ _ _ _ (HxF.out.drewN _)))
          | (go_at_call 21; exact quietS (at_any _ _ _ _ _ _ _ _ (HrF.out.drewN _)))))

        have HBq := Lib.hid (And.intro (below_drewN HB4.out nq) (And.intro (HC4.out.drewN nq) (HQ4.out.belowS (below_drewN (Below.refl _ w4) nq))))
        generalize w4.drewN nq = w5 at HBq ⊢
        clear hf1
        have hlk := Lib.hid (like_any HBq.out.2.1 HBq.out.2.2)
        go_wp2_with fail
        refine hlk.out.mono ?_
        rintro e w6 ⟨rfl, hb6⟩
        have HB6 := Lib.hid (HBq.out.1.trans (hb6.mono HBq.out.1.size))
        clear hlk hb6
        go_wp2_with fail
        refine (cubLives_any _).mono ?_
        rintro y wz ⟨rfl, hBz⟩
        have HBz := Lib.hid (below_then HB6.out hBz)
        clear hBz
        go_wp2_with fail
        go_ret
        exact ⟨rfl, HBz.out⟩

    · have h1 := cubRead_no (w := w2) (gr := g) hlv
      have h2 := refReadK_no (w := w2) (gr := gx) hlv
      clear hlv
      refine h1.mono ?_
      rintro y w3 ⟨rfl, rfl⟩
      go_wp2_with fail
      refine h2.mono ?_
      rintro y w4 ⟨⟨d, rfl⟩, hB3⟩
      have HrF := Lib.hid (hr2.grown (grown_of hB3 none) (fun k e => by cases e))
      have HxF := Lib.hid (hx.grown (grown_of hB3 none) (fun k e => by cases e))
      have hf1 := HxF.out.c1
      have HB4 := Lib.hid (hb2.trans (hB3.mono hb2.size))
      clear h1 h2 hB3 hr2 hx hb2
      go_wp2_with fail
      go_quiet ((first
        | (go_at_call 22; exact Calls.quiet_of (end_any _ _ _ _ _ _ _ _ (HrF.out.drewN _)))
        | (go_at_call 23; exact Calls.quiet_of (refEnd_any _ _ _ _ _ _ _ _ (HxF.out.drewN _)))
        | (go_at_call 21; exact quietS (at_any _ _ _ _ _ _ _ _ (HrF.out.drewN _)))))

      have HBq := Lib.hid (below_drewN HB4.out nq)
      generalize w4.drewN nq = w5 at HBq ⊢
      clear hf1
      go_wp2_with fail
      refine (cubLives_any _).mono ?_
      rintro y wz ⟨rfl, hBz⟩
      have HBz := Lib.hid (below_then HBq.out hBz)
      clear hBz
      go_wp2_with fail
      go_ret
      exact ⟨rfl, HBz.out⟩

set_option maxRecDepth 100000 in
theorem lifted (os : Os) (started : os.Started) (H : Type) (enc : TypeId × Value → H) :
    ReturnsInHanded {} Tryz.checked os 5 .any (Rows.cuboidReadsSpec.pre6 enc Tryz.prog Tryz.f5 Rows.cuboidReadsRow.domain false) (Rows.cuboidReadsSpec.post enc Tryz.prog Tryz.f5 false true false false) := by
  refine returnsInHanded_of_change (C := Tryz.checked) own started (by kernel_rfl) Tryz.func5
    (ChangeSpec.witness6 (enc := enc) (C := Tryz.checked) false ⟨#[], #[.slice none 0 0, .int .i64 0, .int .i64 0], []⟩ 8 (by kernel_rfl) (by kernel_rfl) (by kernel_rfl) (by kernel_rfl)) ?_
  intro W base args ds gs before hval0 hW hcnd _
  have hval : ∀ (j : Nat) t v, Tryz.f5.params[j]? = some t → args[j]? = some v → Value.okWide Tryz.prog W .any base t v := hval0
  have hW' := hW
  obtain ⟨p, q, hA0, hV, rfl, hfz, hnd⟩ := hW
  have hA : DataW.TrodAll enc Tryz.prog W 0 (fun _ => true) true Tryz.f5.params.toList args.toList ds p := hA0
  rw [Tryz.params5] at hA hval
  obtain ⟨v0, vs0, d0, ds0, p0, q0, hargs, rfl, rfl, h0, r0⟩ := trodAll_cons hA
  obtain ⟨v1, vs1, d1, ds1, p1, q1, rfl, rfl, rfl, h1, r1⟩ := trodAll_cons r0
  obtain ⟨v2, vs2, d2, ds2, p2, q2, rfl, rfl, rfl, h2, r2⟩ := trodAll_cons r1
  obtain ⟨rfl, rfl, rfl⟩ := trodAll_nil r2
  obtain rfl : args = #[v0, v1, v2] := by cases args; simp_all
  obtain ⟨rfl, rfl⟩ := trodVars_none hV
  obtain ⟨a0, len0, cap0, rfl⟩ := okWide_slice Tryz.underlying44 (hval 0 44 v0 rfl rfl)
  have k0 := h0
  have lt0 : ∀ x ∈ p0, x.block < W.heap.size := by obtain ⟨m, hm⟩ := k0; exact DataW.trod_lt m _ _ _ hm
  obtain ⟨z0, w0⟩ : ∃ zs, IsRow .u8 W a0 len0 cap0 zs := by
    obtain ⟨fuel, hf⟩ := h0
    rcases open_ints Tryz.underlying44 Tryz.underlying5 (by kernel_rfl) hf with ⟨hcs, _⟩ | ⟨x, l, c, zs, hcs, _, hl, hm, hz, _, hcell, hwz⟩
    · simp [Value.cells] at hcs
      obtain ⟨rfl, rfl, rfl⟩ := hcs
      exact ⟨[], .inl ⟨rfl, rfl, rfl, rfl⟩⟩
    · simp [Value.cells] at hcs
      obtain ⟨rfl, rfl, rfl⟩ := hcs
      exact ⟨zs, .inr ⟨_, rfl, hl, hm, by simpa using hz, hcell, hwz⟩⟩
  obtain ⟨a1, rfl, rfl, rfl, w1⟩ := open_int Tryz.underlying3 (hval 1 3 v1 rfl rfl) h1
  obtain ⟨a2, rfl, rfl, rfl, w2⟩ := open_int Tryz.underlying3 (hval 2 3 v2 rfl rfl) h2
  clear hA0 hval0
  refine (walk a0 len0 cap0 z0 a1 a2 W w0 w1 w2).mono fun e W' ⟨he, bel⟩ => ?_
  subst he
  exact ⟨_, rfl, _, _, _, [], _, [], hW', trodAll_mk1 (shut_bool Tryz.underlying4 _), (trodAll_cons_mk (Below.trod laidOut (by kernel_rfl) (of_decide_eq_true (by kernel_rfl)) k0 bel lt0) (trodAll_cons_mk (shut_int Tryz.underlying3 w1) (trodAll_cons_mk (shut_int Tryz.underlying3 w2) trodAll_mk0))), rfl, bel.frame _, fun h => by cases h⟩

theorem over : Rows.cuboidReadsRow.holds Tryz.pinned (OpenSpec.ofChange Rows.cuboidReadsSpec) :=
  OpenClaim.holds_of_wide 5 Tryz.f5 rfl rfl rfl rfl rfl rfl rfl ⟨rfl, rfl, rfl, rfl, rfl⟩ rfl rfl rfl rfl rfl (by kernel_rfl) Tryz.func5 (by kernel_rfl)
    (of_decide_eq_true (by kernel_rfl)) (by unfold Func.isWrapper; first | (rw [if_pos (by decide +kernel)]; kernel_rfl) | (rw [if_neg (by decide +kernel)]; exact ⟨rfl, rfl⟩))
    (fun os started H enc _ => lifted os started H enc)

theorem proved : Rows.CuboidReadsSaid := over
end Go.Proofs.YteifhgcjmjihgaaGreat.cuboidReads
