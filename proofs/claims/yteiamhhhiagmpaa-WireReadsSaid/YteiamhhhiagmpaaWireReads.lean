/-
  Proved: whatever bytes (the first 200) are read, and whatever is asked of the reader (the first 60 calls), it answers just what the document's reader answers, call by call; the document's examples hold, and nothing that was handed in changes. No condition.
-/
import Derived.Test.YteiamhhhiagmpaaRows
import Derived.Test.YteiamhhhiagmpaaFew02
import Derived.Test.YteiamhhhiagmpaaWireLives
import Derived.Test.YteiamhhhiagmpaaAsk02
import Derived.Deep.RegionHeld3
import Derived.WalkKit
import Derived.ProofKit
import Derived.OpenShut
import Derived.ShutString
import Derived.ChangeOld
import Derived.Below
namespace Go.Proofs.Yteiamhhhiagmpaa.wireReads
open Go.ChangeShapes Go.WideShapes Go.ChangeAt Go.RowKit
open Go.ChangeMaps (open_string shut_string)
set_option linter.unusedVariables false

theorem own : ownKnob Try.prog.godebug = none := by kernel_rfl
theorem laidOut : laidOutB Try.prog = true := by kernel_rfl

def IsRow (k : IntKind) (w : World) (a : Option Addr) (len cap : Nat) (zs : List Int) : Prop :=
  (a = none ∧ len = 0 ∧ cap = 0 ∧ zs = []) ∨
  ∃ x, a = some x ∧ len ≤ cap ∧ cap ≤ maxLen ∧ zs.length = cap ∧ (∀ i, i < zs.length → w.cell? (x.add i) = some (.int k (zs.getD i 0))) ∧ ∀ n ∈ zs, (Lit.int k n).wf = true

set_option maxRecDepth 100000 in
set_option maxHeartbeats 2000000 in
theorem walk (a0 : Option Addr) (len0 cap0 : Nat) (z0 : List Int) (a1 : Option Addr) (len1 cap1 : Nat) (w : World) (w0 : IsRow .u8 w a0 len0 cap0 z0) (w1 : RC Try.prog w 32 [.slice a1 len1 cap1]) :
    Calls Try.prog 7 #[.slice a0 len0 cap0, .slice a1 len1 cap1] w fun e w' => e = .returned (.bool true) ∧ Below w.heap.size w w' := by
  obtain ⟨l0, hr0⟩ := HasB.of_row w0
  go_enter Try.func7, Try.ntmps7
  go_wp2_with fail
  refine (few_any _ _ _ l0 _ _ hr0 200 (by omega)).mono ?_
  rintro e w' ⟨⟨n, rfl, hb0, hn1, hn2⟩, rfl⟩
  have hn200 : n ≤ 200 := hn2
  clear hr0 hn1 hn2
  generalize l0.take (Int.toNat 200) = l at hb0
  go_wp2_with fail
  refine (new_any _ _ _ _ _ hb0 (by omega)).mono ?_
  rintro e v1 ⟨g, A', c', rfl, hr, hwg, hb⟩
  have hz := hb.size
  have hgl := hr.lt
  have hx : Rd 37 (v1.alloc (.cells #[.slice a0 n cap0, .int .i64 0, .int .i64 0] 37)) v1.heap.size a0 n cap0 l 0 0 :=
    ⟨Block.new _ _ _, ((hb0.below hb (Nat.le_refl _)).more hz).alloc (Nat.le_refl _) _, Nat.zero_le _, Nat.zero_le _⟩
  have hr2 : Rd 52 (v1.alloc (.cells #[.slice a0 n cap0, .int .i64 0, .int .i64 0] 37)) g A' n c' l 0 0 :=
    hr.grown2 (World.grownBy_alloc _ _ none) (by simp) (hr.has.alloc (Nat.le_of_lt hgl) _)
  have hb2 : Below w.heap.size w (v1.alloc (.cells #[.slice a0 n cap0, .int .i64 0, .int .i64 0] 37)) := hb.alloc hz _
  have hgg : g < v1.heap.size := hgl
  have hT0 : Two w (v1.alloc (.cells #[.slice a0 n cap0, .int .i64 0, .int .i64 0] 37)) g v1.heap.size a0 A' n cap0 c' l 0 0 0 0 := ⟨hr2, hx, hb2, hb0, hwg, hgg⟩
  clear hr hb hr2 hx hb2 hb0
  go_wp2_with fail
  generalize v1.alloc (.cells #[.slice a0 n cap0, .int .i64 0, .int .i64 0] 37) = w2 at *
  generalize v1.heap.size = gx at *
  clear hz hgl
  go_loopw [7] (fun i wr => ∃ k p e : Nat, k ≤ len1 ∧ k ≤ 60 ∧ i = .int .i64 k ∧ Two w wr g gx a0 A' n cap0 c' l p e p e) (fun i _ => 60 - (intOf i).toNat)
  case atStart => exact ⟨0, 0, 0, by omega, by omega, rfl, hT0⟩
  case round =>
    obtain ⟨k, p, e, hk1, hk2, rfl, hT⟩ := hrel
    clear hT0
    have hbel := hT.below
    by_cases hlt : k < len1 ∧ k < 60
    · obtain ⟨hlt1, hlt2⟩ := hlt
      obtain ⟨b, o, rfl, hbw, hnc, hcm, hask⟩ := asks_of w1 (by omega)
      obtain ⟨x, y, lo, hi, hA⟩ := hask k hlt1
      obtain ⟨h0, h1, h2, h3⟩ := hA.below hbel hbw
      clear hA hask hbel
      unfold maxLen at hcm
      have hnb1 : some b ≠ some g := by simp; omega
      have hnb2 : some b ≠ some gx := by simp; omega
      have hi0 : (0 : Int) ≤ (k : Int) := by omega
      have hi1 : (k : Int) < (len1 : Int) := by omega
      cases x
      · cases y
        · go_wp2_with fail
          go_region_held3 (fun w' => w'.cell? ⟨b, o + k * 4 + 2, none⟩ = some (.int .i64 lo) ∧ w'.cell? ⟨b, o + k * 4 + 3, none⟩ = some (.int .i64 hi))
            (first
              | go_keep
              | exact ⟨hg2.cell (And.left (by assumption)) hnb2, hg2.cell (And.right (by assumption)) hnb2⟩
              | exact ⟨hg1.cell (And.left (by assumption)) hnb1, hg1.cell (And.right (by assumption)) hnb1⟩)
            (first
              | (go_at_call 19; refine (int_any _ _ _ _ _ _ _ _ hT2.r lo hi).mono ?_; rintro x1 u1 ⟨rfl, hr1, hg1⟩; have hT3 := hT2.stepR hr1 hg1)
              | (go_at_call 19; refine (int_any _ _ _ _ _ _ _ _ (hT.drewN 1).r lo hi).mono ?_; rintro x1 u1 ⟨rfl, hr1, hg1⟩; have hT1 := (hT.drewN 1).stepR hr1 hg1)
              | (go_at_call 20; refine (refInt_any _ _ _ _ _ _ _ _ hT1.x lo hi).mono ?_; rintro x2 u2 ⟨rfl, hx2, hg2⟩; have hT3 := hT1.stepX hx2 hg2)
              | (go_at_call 20; refine (refInt_any _ _ _ _ _ _ _ _ (hT.drewN 1).x lo hi).mono ?_; rintro x2 u2 ⟨rfl, hx2, hg2⟩; have hT2 := (hT.drewN 1).stepX hx2 hg2))
          all_goals
            have hTF := hT3
            clear hT3 h0 h1 h2 h3
            generalize p + (lk l p e lo hi).2.1 = p' at hTF
            generalize (lk l p e lo hi).2.2 = e' at hTF
            have hrF := hTF.r
            have hxF := hTF.x
            have hf0 := hxF.c0
            have hf1 := hxF.c1
            have hf2 := hxF.c2
            go_wp2_with fail
            go_quiet ((first
              | (go_at_call 21; exact Calls.quiet_of (end_any _ _ _ _ _ _ _ _ (hrF.drewN _)))
              | (go_at_call 22; exact Calls.quiet_of (refEnd_any _ _ _ _ _ _ _ _ (hxF.drewN _)))
              | (go_at_call 23; exact quietS (at_any _ _ _ _ _ _ _ _ (hrF.drewN _)))
              | (go_at_call 24; exact quietS (failed_any _ _ _ _ _ _ _ _ (hrF.drewN _)))))
            go_wp2_with fail
            go_roundw
            case rel => exact ⟨k + 1, p', e', by omega, by omega, by go_num, hTF.drewN _⟩
            case measure => simp [intOf]; omega
        · go_wp2_with fail
          go_region_held3 (fun w' => w'.cell? ⟨b, o + k * 4 + 3, none⟩ = some (.int .i64 hi))
            (first
              | go_keep
              | exact hg2.cell (by assumption) hnb2
              | exact hg1.cell (by assumption) hnb1)
            (first
              | (go_at_call 17; refine (text_any _ _ _ _ _ _ _ _ hT2.r hi).mono ?_; rintro x1 u1 ⟨rfl, hr1, hg1⟩; have hT3 := hT2.stepR hr1 hg1)
              | (go_at_call 17; refine (text_any _ _ _ _ _ _ _ _ (hT.drewN 1).r hi).mono ?_; rintro x1 u1 ⟨rfl, hr1, hg1⟩; have hT1 := (hT.drewN 1).stepR hr1 hg1)
              | (go_at_call 18; refine (refText_any _ _ _ _ _ _ _ _ hT1.x hi).mono ?_; rintro x2 u2 ⟨rfl, hx2, hg2⟩; have hT3 := hT1.stepX hx2 hg2)
              | (go_at_call 18; refine (refText_any _ _ _ _ _ _ _ _ (hT.drewN 1).x hi).mono ?_; rintro x2 u2 ⟨rfl, hx2, hg2⟩; have hT2 := (hT.drewN 1).stepX hx2 hg2))
          all_goals
            have hTF := hT3
            clear hT3 h0 h1 h2 h3
            generalize (tx l p e hi).2.1 = p' at hTF
            generalize (tx l p e hi).2.2 = e' at hTF
            have hrF := hTF.r
            have hxF := hTF.x
            have hf0 := hxF.c0
            have hf1 := hxF.c1
            have hf2 := hxF.c2
            go_wp2_with fail
            go_quiet ((first
              | (go_at_call 21; exact Calls.quiet_of (end_any _ _ _ _ _ _ _ _ (hrF.drewN _)))
              | (go_at_call 22; exact Calls.quiet_of (refEnd_any _ _ _ _ _ _ _ _ (hxF.drewN _)))
              | (go_at_call 23; exact quietS (at_any _ _ _ _ _ _ _ _ (hrF.drewN _)))
              | (go_at_call 24; exact quietS (failed_any _ _ _ _ _ _ _ _ (hrF.drewN _)))))
            go_wp2_with fail
            go_roundw
            case rel => exact ⟨k + 1, p', e', by omega, by omega, by go_num, hTF.drewN _⟩
            case measure => simp [intOf]; omega
      · go_wp2_with fail
        refine (bad_any _ _ _ _ _ _ _ _ hT.r).mono ?_
        rintro x1 u1 ⟨rfl, hr1, hg1⟩
        have hT1 := hT.stepR hr1 hg1
        go_wp2_with fail
        refine (refBad_any _ _ _ _ _ _ _ _ hT1.x).mono ?_
        rintro x2 u2 ⟨rfl, hx2, hg2⟩
        have hTF := hT1.stepX hx2 hg2
        clear hT1 hr1 hg1 hx2 hg2 h0 h1 h2 h3 hT
        generalize (if e = 0 then 2 else e) = e' at hTF
        have hrF := hTF.r
        have hxF := hTF.x
        have hf0 := hxF.c0
        have hf1 := hxF.c1
        have hf2 := hxF.c2
        go_wp2_with fail
        go_quiet ((first
          | (go_at_call 21; exact Calls.quiet_of (end_any _ _ _ _ _ _ _ _ (hrF.drewN _)))
          | (go_at_call 22; exact Calls.quiet_of (refEnd_any _ _ _ _ _ _ _ _ (hxF.drewN _)))
          | (go_at_call 23; exact quietS (at_any _ _ _ _ _ _ _ _ (hrF.drewN _)))
          | (go_at_call 24; exact quietS (failed_any _ _ _ _ _ _ _ _ (hrF.drewN _)))))
        go_wp2_with fail
        go_roundw
        case rel => exact ⟨k + 1, p, e', by omega, by omega, by go_num, hTF.drewN _⟩
        case measure => simp [intOf]; omega
    · go_wp2_with fail
      all_goals
        refine (lives_any _).mono ?_
        rintro e w' ⟨rfl, hl⟩
        go_wp2_with fail
        go_ret
        exact ⟨rfl, hbel.trans (hl.mono hbel.size)⟩

set_option maxRecDepth 100000 in
theorem lifted (os : Os) (started : os.Started) (H : Type) (enc : TypeId × Value → H) :
    ReturnsInHanded {} Try.checked os 7 .any (Rows.wireReadsSpec.pre6 enc Try.prog Try.f7 Rows.wireReadsRow.domain false) (Rows.wireReadsSpec.post enc Try.prog Try.f7 false true false false) := by
  refine returnsInHanded_of_change (C := Try.checked) own started (by kernel_rfl) Try.func7
    (ChangeSpec.witness6 (enc := enc) (C := Try.checked) false ⟨#[], #[.slice none 0 0, .slice none 0 0], []⟩ 8 (by kernel_rfl) (by kernel_rfl) (by kernel_rfl) (by kernel_rfl)) ?_
  intro W base args ds gs before hval0 hW hcnd _
  have hval : ∀ (j : Nat) t v, Try.f7.params[j]? = some t → args[j]? = some v → Value.okWide Try.prog W .any base t v := hval0
  have hW' := hW
  obtain ⟨p, q, hA0, hV, rfl, hfz, hnd⟩ := hW
  have hA : DataW.TrodAll enc Try.prog W 0 (fun _ => true) true Try.f7.params.toList args.toList ds p := hA0
  rw [Try.params7] at hA hval
  obtain ⟨v0, vs0, d0, ds0, p0, q0, hargs, rfl, rfl, h0, r0⟩ := trodAll_cons hA
  obtain ⟨v1, vs1, d1, ds1, p1, q1, rfl, rfl, rfl, h1, r1⟩ := trodAll_cons r0
  obtain ⟨rfl, rfl, rfl⟩ := trodAll_nil r1
  obtain rfl : args = #[v0, v1] := by cases args; simp_all
  obtain ⟨rfl, rfl⟩ := trodVars_none hV
  obtain ⟨a0, len0, cap0, rfl⟩ := okWide_slice Try.underlying22 (hval 0 22 v0 rfl rfl)
  have k0 := h0
  have lt0 : ∀ x ∈ p0, x.block < W.heap.size := by obtain ⟨m, hm⟩ := k0; exact DataW.trod_lt m _ _ _ hm
  obtain ⟨z0, w0⟩ : ∃ zs, IsRow .u8 W a0 len0 cap0 zs := by
    obtain ⟨fuel, hf⟩ := h0
    rcases open_ints Try.underlying22 Try.underlying5 (by kernel_rfl) hf with ⟨hcs, _⟩ | ⟨x, l, c, zs, hcs, _, hl, hm, hz, _, hcell, hwz⟩
    · simp [Value.cells] at hcs
      obtain ⟨rfl, rfl, rfl⟩ := hcs
      exact ⟨[], .inl ⟨rfl, rfl, rfl, rfl⟩⟩
    · simp [Value.cells] at hcs
      obtain ⟨rfl, rfl, rfl⟩ := hcs
      exact ⟨zs, .inr ⟨_, rfl, hl, hm, by simpa using hz, hcell, hwz⟩⟩
  obtain ⟨a1, len1, cap1, rfl⟩ := okWide_slice Try.underlying32 (hval 1 32 v1 rfl rfl)
  have k1 := h1
  have lt1 : ∀ x ∈ p1, x.block < W.heap.size := by obtain ⟨m, hm⟩ := k1; exact DataW.trod_lt m _ _ _ hm
  have w1 : RC Try.prog W 32 [.slice a1 len1 cap1] := by
    obtain ⟨fuel, hf⟩ := h1
    exact ⟨_, _, _, _, _, fuel, _, hf⟩
  clear hA0 hval0
  refine (walk a0 len0 cap0 z0 a1 len1 cap1 W w0 w1).mono fun e W' ⟨he, bel⟩ => ?_
  subst he
  exact ⟨_, rfl, _, _, _, [], _, [], hW', trodAll_mk1 (shut_bool Try.underlying4 _), (trodAll_cons_mk (Below.trod laidOut (by kernel_rfl) (of_decide_eq_true (by kernel_rfl)) k0 bel lt0) (trodAll_cons_mk (Below.trod laidOut (by kernel_rfl) (of_decide_eq_true (by kernel_rfl)) k1 bel lt1) trodAll_mk0)), rfl, bel.frame _, fun h => by cases h⟩

theorem over : Rows.wireReadsRow.holds Try.pinned (OpenSpec.ofChange Rows.wireReadsSpec) :=
  OpenClaim.holds_of_wide 7 Try.f7 rfl rfl rfl rfl rfl rfl rfl ⟨rfl, rfl, rfl, rfl, rfl⟩ rfl rfl rfl rfl rfl (by kernel_rfl) Try.func7 (by kernel_rfl)
    (of_decide_eq_true (by kernel_rfl)) (by unfold Func.isWrapper; first | (rw [if_pos (by decide +kernel)]; kernel_rfl) | (rw [if_neg (by decide +kernel)]; exact ⟨rfl, rfl⟩))
    (fun os started H enc _ => lifted os started H enc)

theorem proved : Rows.WireReadsSaid := over
end Go.Proofs.Yteiamhhhiagmpaa.wireReads
