/- CubE, CubG -/
import Derived.Test.YteifhgcjmjihgaaJ29
import Derived.Test.YteifhgcjmjihgaaJ36
import Derived.LoopIn
import Derived.LoopNIn
import Derived.Maps.AppendAt
import Derived.OwnWalkIn
import Derived.RangeFuncBound
import Derived.RangeFuncBox
import Derived.RangeFuncCalls
import Derived.RangeFuncLeaves
import Derived.RangeFuncNested
import Derived.RegionIn
import Derived.Shelf.Abstract
import Derived.Shelf.AbstractIn
import Derived.Shelf.RegionOpen
import Derived.Sort.MapsRangeIn
import Derived.TacticsInMore
import Derived.WalkKit
namespace Go.Proofs.Yteifhgcjmjihgaa
set_option maxRecDepth 100000
open Go.RowKit Go.Maps Go.Sort Go.Shelf
attribute [local go_sem] Oper.semAt_some

theorem key3_type : Try.prog.keyTypeAt 4 57 = true := by kernel_rfl
theorem key3_law : Go.WideMaps.KeyLaw Try.prog 57 := deep_law_laid (show laidOutB Try.prog = true by kernel_rfl) (m := 4) (by decide) (of_decide_eq_true (by kernel_rfl)) key3_type (by kernel_rfl)
theorem keyT3 {W : Nat} (hW : W ≤ 3) : KeyT 57 kv3 W :=
  key3_T (Keyed.of_law key3_law) Try.underlying57 Try.underlying3 (by kernel_rfl) (by kernel_rfl) (by kernel_rfl) (of_decide_eq_true (by kernel_rfl)) hW
abbrev MJ (W : Nat) (w : World) (b : Nat) (F : Lit → Option Value) (J : List (List Int)) : Prop := MapJ 57 kv3 W w b F J
abbrev RJ (W : Nat) (w : World) (b r : Nat) (F : Lit → Option Value) (J acc : List (List Int)) (cnt : Nat) : Prop := RngJ 57 kv3 W w b r F J acc cnt

set_option maxRecDepth 100000 in
set_option maxHeartbeats 1000000 in
/-- The iterator: each key comes once. -/
theorem keys1_in {Wd : Nat} (hW : Wd ≤ 3) (n : Nat) (hn : 1 ≤ n) (l Bm b : Nat) {F : Lit → Option Value} {J : List (List Int)} (I Ix : List (List Int) → World → Prop)
    (hY : ∀ pre x W, I pre W → pre.length < J.length → YieldAt Fence.wide (n - 1) Try.prog l #[kv3 x] W fun e W' => (e = .returned (.bool true) ∧ I (pre ++ [x]) W' ∧ KeepsWalks W W') ∨ (e = .returned (.bool false) ∧ Ix (pre ++ [x]) W'))
    (W : World) (hI : AbidesFrom W.heap.size I) (hm : W.cell? ⟨Bm, 0, none⟩ = some (.map (some b))) (hown : MJ Wd W b F J) (h0 : I [] W) :
    CallsIn Fence.wide n Try.prog 62 #[.func (.yield l) #[] #[], .pointer (some ⟨Bm, 0, none⟩)] W fun e W' => (∃ v, e = .returned v) ∧ ((∃ xs, xs.Perm J ∧ I xs W') ∨ ∃ pre, Ix pre W') := by
  have T := keyT3 hW
  refine callsIn_of_wp Try.func62 rfl trivial ?_ rfl
  simp only [Try.ntmps62, List.size_toArray, List.length_cons, List.length_nil, Nat.reduceAdd, Nat.reduceSub, Array.replicate_succ, Array.replicate_zero, List.push_toArray, List.append_toArray, List.nil_append, List.cons_append]
  gi_wp2_with (first
    | (gi_at_range; refine wpListIn_range_J _ rfl _ 53 rfl 63 T Try.underlying53 b F J rfl hown ?_; intro w0 hrg0 hg0 hs0)
    | gi_in)
  go_frame
  gi_loopw [3] (fun _ wr => ∃ (cnt : Nat) (ss : List (List Int)), RJ Wd wr b W.heap.size F J ss cnt ∧ I ss wr) (fun _ wr => wr.rangeLeft b W.heap.size)
  case atStart =>
    exact ⟨_, [], hrg0, hI [] W w0 none h0 hg0 (fun r e => by cases e)⟩
  case round =>
    obtain ⟨cnt, ss, hrg, hIs⟩ := hrel
    gi_wp2_with (first
      | (gi_at_next; refine wpListIn_next_J _ rfl _ rfl T rfl hrg ?_ ?_)
      | gi_in)
    · intro hp
      gi_wp2
      go_end0
      exact ⟨⟨_, rfl⟩, .inl ⟨ss, hp, hIs⟩⟩
    · intro k kl v w2 cnt2 hk hnk hkl hF hrg2 hlt hg2 hs2 hen
      have hI2 : I ss w2 := hI ss wr w2 (some W.heap.size) hIs hg2 (fun r e => by cases e; exact ⟨Nat.le_refl _, by obtain ⟨D, left, h1, _⟩ := hrg.rng; exact h1.iter_walk⟩)
      have hlen : ss.length < J.length := by
        have := (nodup_len hrg2.nodup hrg2.key)
        simp at this
        omega
      obtain ⟨x, y, z, hxyz⟩ : ∃ x y z, Hid (k.getD 0 0 = x ∧ k.getD 1 0 = y ∧ k.getD 2 0 = z) := ⟨_, _, _, Lib.hid ⟨rfl, rfl, rfl⟩⟩
      have ek : Hid (kv3 k = .agg #[.int .i64 x, .int .i64 y, .int .i64 z]) := Lib.hid (by unfold kv3; rw [hxyz.out.1, hxyz.out.2.1, hxyz.out.2.2])
      have hI3 : I ss (w2.alloc (.cells #[.int .i64 x, .int .i64 y, .int .i64 z] 57)) := hI ss w2 _ none hI2 (World.grownBy_alloc w2 _ none) (fun r e => by cases e)
      obtain ⟨fn, tmps, assign, body, hy, hR⟩ := hY ss k _ hI3 hlen
      have hrg3' := hrg2.alloc (.cells #[.int .i64 x, .int .i64 y, .int .i64 z] 57)
      rw [ek.out] at hen hy ⊢
      clear hs2
      gi_wp2
      refine hR.mono ?_
      rintro e W3 (⟨rfl, hI4, hk4⟩ | ⟨rfl, hIx⟩)
      · have hrg4 := hrg3'.of_walks hk4
        gi_wp2
        go_roundw
        case rel => exact ⟨cnt2, ss ++ [k], hrg4, hI4⟩
        case measure => rw [hrg4.left, hrg.left]; exact hlt
      · gi_wp2
        refine bodyPost_ret (results_none rfl _ _ _) rfl ?_
        exact ⟨⟨_, rfl⟩, .inr ⟨ss ++ [k], hIx⟩⟩
/-- maps.Keys: its value is an iterator. -/
theorem mapsKeys_in (n : Nat) (mb : Option Nat) (w : World) :
    CallsIn Fence.wide n Try.prog 42 #[.map mb] w fun e w' => e = .returned (.func (.func 62) #[] #[.pointer (some ⟨w.heap.size, 0, none⟩)]) ∧ w' = w.alloc (.cells #[.map mb] 53) := by
  refine callsIn_of_wp Try.func42 rfl trivial ?_ rfl
  simp only [Try.ntmps42, List.size_toArray, List.length_cons, List.length_nil, Nat.reduceAdd, Nat.reduceSub, Array.replicate_succ, Array.replicate_zero, List.push_toArray, List.append_toArray, List.nil_append, List.cons_append]
  gi_wp2
  go_ret
  exact ⟨rfl, rfl⟩
/-- .. over the keys. -/
theorem keys_stops {Wd : Nat} (hW : Wd ≤ 3) (n : Nat) (hn : 1 ≤ n) (Bm b : Nat) {F : Lit → Option Value} {J : List (List Int)} (w : World) (hm : w.cell? ⟨Bm, 0, none⟩ = some (.map (some b))) (hown : MJ Wd w b F J) :
    SeqStopsK Fence.wide n Try.prog 62 #[.pointer (some ⟨Bm, 0, none⟩)] (fun k => #[kv3 k]) KeepsWalks (fun xs => xs.Perm J) (fun _ => True) J.length w := fun l I Ix W hb hI _ hY h0 => by
  have hlt : Bm < w.heap.size := World.block_lt_of_cell? w _ hm
  refine (keys1_in hW n hn l Bm b I Ix hY W hI ((hb.cell (p := ⟨Bm, 0, none⟩) hlt).trans hm) (hown.below hb hown.lt) h0).mono ?_
  rintro e W' ⟨h1, h2 | ⟨pre, h2⟩⟩
  · exact ⟨h1, .inl h2⟩
  · exact ⟨h1, .inr ⟨pre, trivial, h2⟩⟩
end Go.Proofs.Yteifhgcjmjihgaa
namespace Go.Proofs.Yteifhgcjmjihgaa
set_option maxRecDepth 100000
open Go.RowKit Go.Maps Go.Sort Go.Shelf
attribute [local go_sem] Oper.semAt_some

theorem info_key : (Try.prog.info? 57).map (fun i => (i.zero, i.size, i.bytes)) = some (some (.agg #[.int .i64 0, .int .i64 0, .int .i64 0]), 3, 24) := by kernel_rfl
/-- A key's three cells. -/
def kc3 (k : List Int) : List Value := [.int .i64 (k.getD 0 0), .int .i64 (k.getD 1 0), .int .i64 (k.getD 2 0)]
theorem kc3_len (A : List (List Int)) : (A.flatMap kc3).length = A.length * 3 := by
  induction A with
  | nil => rfl
  | cons a A ih => rw [List.flatMap_cons, List.length_append, ih]; simp [kc3]; omega
theorem keeps_walks {W W' : World} (h : KeepsOthers W W') : KeepsWalks W W' := ⟨h.size, fun k o hk hw => h.same k o hk (by cases o <;> first | rfl | cases hw)⟩
theorem block_own {β : Type} (B : Nat) (t : TypeId) (cs : Array Value) : Own (fun (_ : β) W => Block W B t cs) := fun _ X Y row hs hg hrow =>
  (hg.block B hs.lt (fun e' => by obtain ⟨o, ho, hc⟩ := hrow B e'.symm; rw [show X.heap[B]? = _ from hs] at ho; cases ho; cases hc)).trans hs
theorem key_lit (w : World) (x y z : Value) (t : TypeId) (g : Nat) (hg : g = w.heap.size) : ∀ j u, [x, y, z][j]? = some u → (w.alloc (.cells #[x, y, z] t)).cell? ((⟨g, 0, none⟩ : Addr).add j) = some u := by
  intro j u hj
  subst hg
  rw [add_flat, Nat.zero_add, cell_new]
  simpa using hj

set_option maxRecDepth 100000 in
set_option maxHeartbeats 2000000 in
/-- slices.AppendSeq(nil, seq), whatever the iterator. -/
theorem appendSeq_in (n : Nat) (hn : 3 ≤ n) (g : Nat) (lb : Array Value) (eg : ∀ args w, (callFunc g args).run Try.prog w = .ok (.enter g args) w) (S Sp : List (List Int) → Prop) (N : Nat) (hN : N ≤ 1000000) (w : World)
    (hseq : SeqStopsK Fence.wide (n - 1) Try.prog g lb (fun k => #[kv3 k]) KeepsWalks S Sp N w) :
    CallsIn Fence.wide n Try.prog 70 #[.slice none 0 0, .func (.func g) #[] lb] w fun e w' => ∃ (v : Value) (A : List (List Int)), e = .returned v ∧ S A ∧ w'.ownsRow w.heap.size 57 3 v A.length (A.flatMap kc3) ∧ Below w.heap.size w w' := by
  have h1 : 1 ≤ n := by omega
  refine callsIn_of_wp_marks Try.func70 rfl trivial ?_ rfl
  simp only [Try.ntmps70, List.size_toArray, List.length_cons, List.length_nil, Nat.reduceAdd, Nat.reduceSub, Array.replicate_succ, Array.replicate_zero, List.push_toArray, List.append_toArray, List.nil_append, List.cons_append]
  gi_wp2
  have bB := Boxed.new w 69 (.slice none 0 0)
  have hB0 : Below w.heap.size w (w.alloc (.cells #[.slice none 0 0] 69)) := below_a1 w _
  have hsz : (w.alloc (.cells #[.slice none 0 0] 69)).heap.size = w.heap.size + 1 := by simp
  obtain ⟨W0, hW0⟩ : ∃ W0, w.alloc (.cells #[.slice none 0 0] 69) = W0 := ⟨_, rfl⟩
  rw [hW0] at bB hB0 hsz ⊢
  clear hW0
  refine wpIn_rangeFunc_ownH rfl h1 (gf := g) (lb := lb) rfl trivial eg hseq walksK_t walksK_b hB0 (fun _ => rfl)
    (fun (pre : List (List Int)) W => (∃ v, Boxed W w.heap.size 69 v ∧ W.ownsRow w.heap.size 57 3 v pre.length (pre.flatMap kc3) ∧ True) ∧ Below w.heap.size w W)
    (fun _ _ _ => False)
    (OwnFrom.and (Own.from (holdsRow_own w.heap.size w.heap.size 69 57 3 (fun pre : List (List Int) => pre.length) (fun pre : List (List Int) => pre.flatMap kc3) (fun _ _ => True)) _) (ownFrom_below (Nat.le_refl _) (by omega)))
    (fun _ _ _ _ _ hs _ _ => hs)
    ⟨⟨_, bB, World.ownsRow_nil _ _ _ _, trivial⟩, hB0⟩
    (fun k a' W => ∃ Bx, w.heap.size < Bx ∧ Block W Bx 57 (kc3 k).toArray ∧ a' = { tmps := #[.slice none 0 0, .func (.func g) #[] lb, .pointer (some ⟨w.heap.size, 0, none⟩), undef, .slice none 0 0, .pointer (some ⟨Bx, 0, none⟩), .func (.func g) #[] lb, kv3 k, undef, undef, undef, undef, undef], defers := [] })
    (fun k a' _ X Y row hs hg hr => by obtain ⟨Bx, h1, h2, h3⟩ := hs; exact ⟨Bx, h1, block_own (β := Unit) Bx _ _ () X Y row h2 hg (fun r e => (hr r e).2), h3⟩)
    ?assign ?body ?done ?stop
  case assign =>
    rintro l pre k W K ⟨⟨v, bv, hr, -⟩, hB⟩ hK
    obtain ⟨x, y, z, hxyz⟩ : ∃ x y z, Hid (k.getD 0 0 = x ∧ k.getD 1 0 = y ∧ k.getD 2 0 = z) := ⟨_, _, _, Lib.hid ⟨rfl, rfl, rfl⟩⟩
    have ek : kv3 k = .agg #[.int .i64 x, .int .i64 y, .int .i64 z] := by unfold kv3; rw [hxyz.out.1, hxyz.out.2.1, hxyz.out.2.2]
    have ec : (kc3 k).toArray = #[.int .i64 x, .int .i64 y, .int .i64 z] := by unfold kc3; rw [hxyz.out.1, hxyz.out.2.1, hxyz.out.2.2]
    rw [ek, ec] at hK
    rw [ek]
    have hZ := hB.size
    have HK := Lib.hid fun a' W' => hK a' W'
    clear hK ek ec
    gi_wp2
    exact HK.out _ _ ((KeepsOthers.alloc _ _).from _) (KeepsWalks.alloc _ _) ⟨⟨v, bv.alloc _, hr.alloc _, trivial⟩, hB.alloc hZ _⟩ ⟨W.heap.size, bv.lt, Block.new W _ _, rfl⟩
  case body =>
    rintro l pre k a' W hl _ ⟨⟨v, bv, hr, -⟩, hB⟩ ⟨Bx, hBx, bX, rfl⟩ hlt
    obtain ⟨x, y, z, hxyz⟩ : ∃ x y z, Hid (k.getD 0 0 = x ∧ k.getD 1 0 = y ∧ k.getD 2 0 = z) := ⟨_, _, _, Lib.hid ⟨rfl, rfl, rfl⟩⟩
    have ek : kv3 k = .agg #[.int .i64 x, .int .i64 y, .int .i64 z] := by unfold kv3; rw [hxyz.out.1, hxyz.out.2.1, hxyz.out.2.2]
    have ec : kc3 k = [.int .i64 x, .int .i64 y, .int .i64 z] := by unfold kc3; rw [hxyz.out.1, hxyz.out.2.1, hxyz.out.2.2]
    rw [ec] at bX
    rw [ek]
    have EC := Lib.hid ec
    clear ek ec
    have x0 : W.cell? ⟨Bx, 0, none⟩ = some (.int .i64 x) := bX.cell 0
    have x1 : W.cell? ⟨Bx, 1, none⟩ = some (.int .i64 y) := bX.cell 1
    have x2 : W.cell? ⟨Bx, 2, none⟩ = some (.int .i64 z) := bX.cell 2
    have hc := bv.cell
    have hZ := hB.size
    obtain ⟨i0, hi, hz0, hz1, hz2⟩ := info_parts info_key
    have hlen : pre.length ≤ 1000000 := by omega
    have hone : ∀ u ∈ [Value.int .i64 x, .int .i64 y, .int .i64 z], u.oneCell' = true := by
      intro u hu
      simp at hu
      rcases hu with rfl | rfl | rfl <;> rfl
    have hTe : 69 ≠ 57 := by decide
    clear hlt
    gi_wp2_with (gi_at_builtin; refine wpListIn_append_own _ rfl _ _ 69 rfl w.heap.size 57 i0 _ 3 24 Try.underlying69 hi hz0 hz1 hz2 rfl (by decide) _ _ _ rfl (hr.alloc _) ⟨W.heap.size, 0, none⟩ 1 1 [.int .i64 x, .int .i64 y, .int .i64 z] rfl rfl (key_lit W _ _ _ _ _ rfl) hone (by unfold maxLen; omega) (by omega) (by rw [World.size_alloc]; omega) ?_; intro v' w1 hown' hgrow _; obtain ⟨g', cap', rfl⟩ := ownsRow_succ hown'; obtain ⟨hv1, hv2, hr2, hk2, hb2⟩ := bv.appended hTe hr hZ (Nat.le_refl _) hown' hgrow; have hc1 := hv1.cell; have hf1 := hv1.frozen)
    refine ⟨hk2.from _, keeps_walks hk2, ⟨_, hv2, ?_, trivial⟩, hB.trans hb2⟩
    rw [List.flatMap_append, List.length_append]
    simpa [EC.out] using hr2
  case done =>
    rintro D A W hD hS ⟨⟨v, bv, hr, -⟩, hB⟩ hK
    have hc := bv.cell
    gi_wp2
    refine ⟨by simp, .inl ⟨_, _, rfl, run_takeDeferred hK, ?_⟩⟩
    exact ⟨_, results_tmp rfl _ _ _, v, A, rfl, hS, ownsRow_putObj hr _ hK rfl, hB.trans (belowK_b (w := w) (Nat.le_refl _) W D _ _ (by omega) hK rfl rfl)⟩
  case stop =>
    rintro D c pre W hD _ h _
    exact h.elim
end Go.Proofs.Yteifhgcjmjihgaa
