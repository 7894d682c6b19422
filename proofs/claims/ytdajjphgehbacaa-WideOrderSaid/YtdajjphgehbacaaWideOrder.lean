/-
  Proved: of any ints (the first 40), turned round from any place on and added one by one by wide.Add, the sum is just what wide.Total answers of them, and each part of it may be; the document's examples hold, and nothing that was handed in changes. No condition.
-/
import Derived.Test.YtdajjphgehbacaaRows
import Derived.Test.YtdajjphgehbacaaWideArg
import Derived.Deep.RegionHeld3
import Derived.Deep.RegionWith
import Derived.Deep.DeepCutAuto
import Derived.WalkKit
import Derived.ProofKit
import Derived.OpenShut
import Derived.ShutString
import Derived.ChangeOld
import Derived.Below
namespace Go.Proofs.Ytdajjphgehbacaa.wideOrder
open Go.ChangeShapes Go.WideShapes Go.ChangeAt Go.RowKit
open Go.ChangeMaps (open_string shut_string)
set_option linter.unusedVariables false

theorem own : ownKnob Try.prog.godebug = none := by kernel_rfl
theorem laidOut : laidOutB Try.prog = true := by kernel_rfl

def IsRow (k : IntKind) (w : World) (a : Option Addr) (len cap : Nat) (zs : List Int) : Prop :=
  (a = none ∧ len = 0 ∧ cap = 0 ∧ zs = []) ∨
  ∃ x, a = some x ∧ len ≤ cap ∧ cap ≤ maxLen ∧ zs.length = cap ∧ (∀ i, i < zs.length → w.cell? (x.add i) = some (.int k (zs.getD i 0))) ∧ ∀ n ∈ zs, (Lit.int k n).wf = true

set_option maxRecDepth 100000 in
set_option maxHeartbeats 2000000 in
theorem walk (a0 : Option Addr) (len0 cap0 : Nat) (z0 : List Int) (a1 : Int) (w : World) (w0 : IsRow .i64 w a0 len0 cap0 z0) (w1 : (Lit.int .i64 a1).wf = true) :
    Calls Try.prog 8 #[.slice a0 len0 cap0, .int .i64 a1] w fun e w' => e = .returned (.bool true) ∧ Below w.heap.size w w' := by
  obtain ⟨l0, hr0, hx0⟩ := HasI.of_row w0
  obtain ⟨f0, f9⟩ := i64_of_wf w1
  have hn0 := hr0.lenMax
  have hcap0 := hr0.cap
  have hcm0 := hr0.capMax
  have HX0 := Lib.hid hx0
  clear w0 hx0
  go_enter Try.func8, Try.ntmps8
  go_upto_if 13 with fail
  go_cut [0] (fun s0 wx => ∃ (m : Nat) (l : List Int), s0 = .slice a0 m cap0 ∧ m ≤ 40 ∧ HasI w w.heap.size a0 m cap0 l ∧ Hid (∀ x ∈ l, -9223372036854775808 ≤ x ∧ x ≤ 9223372036854775807) ∧ wx = w)
  case first =>
    by_cases h : 40 < len0
    · have h1 : (40 : Int) < (len0 : Int) := by omega
      have h2 : (40 : Int) ≤ (cap0 : Int) := by omega
      go_wp2_with fail
      go_meet
      exact ⟨40, l0.take 40, rfl, Nat.le_refl _, hr0.take_ 40 (by omega), Lib.hid fun x hx => HX0.out x (List.mem_of_mem_take hx), rfl⟩
    · have h1 : ¬ (40 : Int) < (len0 : Int) := by omega
      go_wp2_with fail
      go_meet
      exact ⟨len0, l0, rfl, by omega, hr0, HX0, rfl⟩
  case rest =>
    obtain ⟨m, l, rfl, hm, hr, HX, rfl⟩ := hcut
    have hcap := hr.cap
    have hcm := hr.capMax
    clear hr0 HX0 hn0 hcap0 hcm0
    go_upto_if 17 with fail
    go_cut [1] (fun s1 wx => ∃ f : Int, s1 = .int .i64 f ∧ 0 ≤ f ∧ f ≤ 9223372036854775807 ∧ wx = wc)
    case first =>
      by_cases h : a1 < 0
      · go_wp2_with fail
        go_meet
        exact ⟨_, rfl, by omega, by omega, rfl⟩
      · go_wp2_with fail
        go_meet
        exact ⟨_, rfl, by omega, by omega, rfl⟩
    case rest =>
      obtain ⟨f, rfl, hf0, hf9, rfl⟩ := hcut
      have Hlen := Lib.hid hr.len
      obtain ⟨S, hS⟩ : ∃ S, Hid (S = sumI l) := ⟨_, Lib.hid rfl⟩
      have hSin : wIn (sumI l) := by have := part_in HX.out (by rw [Hlen.out]; exact hm) l.length; rwa [List.take_length] at this
      have HT := Lib.hid (total_any _ _ _ l _ hr (by omega) HX.out (S / 4294967296) (S % 4294967296) 0 (.inl ⟨hSin, by rw [hS.out], by rw [hS.out], rfl⟩))
      obtain ⟨t, ht0, ht1⟩ : ∃ t : Nat, t ≤ m ∧ f % ((m : Int) + 1) = (t : Int) := by
        have h1 := Int.emod_nonneg f (show ((m : Int) + 1) ≠ 0 by omega)
        have h2 := Int.emod_lt_of_pos f (show 0 < ((m : Int) + 1) by omega)
        exact ⟨(f % ((m : Int) + 1)).toNat, by omega, by omega⟩
      have ht2 : f.tmod ((m : Int) + 1) = (t : Int) := by rw [Int.tmod_eq_emod_of_nonneg hf0]; exact ht1
      have HP : Hid (∀ k, wIn (sumI ((rotI l t).take k))) := Lib.hid fun k => part_in (fun x h => HX.out x (rotI_mem h)) (by rw [rotI_length, Hlen.out]; exact hm) k
      clear hSin
      go_wp2_with fail
      refine HT.out.mono ?_
      rintro e v1 ⟨rfl, hb1⟩
      have hb5 := (Block.new v1 23 #[.int .i64 (S / 4294967296), .int .i64 (S % 4294967296)]).alloc (.cells #[.int .i64 0, .int .i64 0] 23)
      have hb7 := Block.new (v1.alloc (.cells #[.int .i64 (S / 4294967296), .int .i64 (S % 4294967296)] 23)) 23 #[.int .i64 0, .int .i64 0]
      have hbe := below_then hb1 (below_a2 v1 (.cells #[.int .i64 (S / 4294967296), .int .i64 (S % 4294967296)] 23) (.cells #[.int .i64 0, .int .i64 0] 23))
      rw [show (v1.alloc (.cells #[.int .i64 (S / 4294967296), .int .i64 (S % 4294967296)] 23)).heap.size = v1.heap.size + 1 from by simp] at hb7
      have hr2 := hr.below hbe (Nat.le_refl _)
      have hgz : wc.heap.size ≤ v1.heap.size := hb1.size
      clear HT hb1 hr
      go_wp2_with fail
      generalize (v1.alloc (.cells #[.int .i64 (S / 4294967296), .int .i64 (S % 4294967296)] 23)).alloc (.cells #[.int .i64 0, .int .i64 0] 23) = v2 at hr2 hb5 hb7 hbe ⊢
      generalize hg5 : v1.heap.size = g5 at hb5 hb7 hgz ⊢
      clear hg5
      go_loopw [8] (fun i wr => ∃ (k : Nat) (s : Int), k ≤ m ∧ i = .int .i64 k ∧ Hid (s = sumI ((rotI l t).take k)) ∧ Block wr g5 23 #[.int .i64 (S / 4294967296), .int .i64 (S % 4294967296)] ∧ Block wr (g5 + 1) 23 #[.int .i64 (s / 4294967296), .int .i64 (s % 4294967296)] ∧ HasI wr wc.heap.size a0 m cap0 l ∧ Below wc.heap.size wc wr) (fun i _ => m - (intOf i).toNat)
      case atStart => exact ⟨0, 0, Nat.zero_le _, rfl, Lib.hid (by simp [sumI]), hb5, hb7, hr2, hbe⟩
      case round =>
        obtain ⟨k, s, hk, rfl, hse, hB5, hB7, hR, hBE⟩ := hrel
        have hc70 : wr.cell? ⟨g5 + 1, 0, none⟩ = some (.int .i64 (s / 4294967296)) := hB7.cell 0
        have hc71 : wr.cell? ⟨g5 + 1, 1, none⟩ = some (.int .i64 (s % 4294967296)) := hB7.cell 1
        have hc50 : wr.cell? ⟨g5, 0, none⟩ = some (.int .i64 (S / 4294967296)) := hB5.cell 0
        have hc51 : wr.cell? ⟨g5, 1, none⟩ = some (.int .i64 (S % 4294967296)) := hB5.cell 1
        by_cases hlt : k < m
        · obtain ⟨j, hj0, hj1⟩ : ∃ j : Nat, j < m ∧ (k + t) % m = j := ⟨_, Nat.mod_lt _ (by omega), rfl⟩
          obtain ⟨b, o, y, rfl, hb, hcy, hye⟩ := hR.at_ hj0
          have hyr : Hid (y = (rotI l t).getD k 0) := Lib.hid (by rw [rotI_get (by rw [Hlen.out]; exact ht0) (by rw [Hlen.out]; exact hlt), Hlen.out, hj1, hye.out])
          have hyb : -9223372036854775808 ≤ y ∧ y ≤ 9223372036854775807 := by
            rw [hye.out, List.getD_eq_getElem?_getD, List.getElem?_eq_getElem (by rw [Hlen.out]; exact hj0)]
            exact HX.out _ (List.getElem_mem _)
          have hsy : Hid (s + y = sumI ((rotI l t).take (k + 1))) := Lib.hid (by rw [sumI_take (by rw [rotI_length, Hlen.out]; exact hlt), ← hse.out, ← hyr.out])
          have hin1 : wIn s := by rw [hse.out]; exact HP.out k
          have hin2 : wIn (s + y) := by rw [hsy.out]; exact HP.out (k + 1)
          have hin3 : wIn y := by unfold wIn; omega
          have HA := Lib.hid fun W => add_num s y W hin1 hin3 hin2
          have hkt : ((k : Int) + (t : Int)) % (m : Int) = (j : Int) := by rw [← hj1]; simp
          have hkt2 : ((k : Int) + (t : Int)).tmod (m : Int) = (j : Int) := by rw [Int.tmod_eq_emod_of_nonneg (by omega)]; exact hkt
          have i0 : (0 : Int) ≤ (k : Int) := by omega
          have i1 : (k : Int) < (m : Int) := by omega
          have i2 : (j : Int) < (m : Int) := by omega
          have i3 : (0 : Int) ≤ (j : Int) := by omega
          have hz7 : g5 + 1 < wr.heap.size := hB7.lt
          have n0 : (((m : Int) + 1) == 0) = false := by simp; omega
          have n1 : ((m : Int) == 0) = false := by simp; omega
          have n2 : ¬ ((m : Int) + 1 = 0) := by omega
          have n3 : ¬ (m = 0) := by omega
          have q1 : IntKind.i64.wrap ((m : Int) + 1) = (m : Int) + 1 := IntWalk.i64_in _ (by omega)
          have q2 : IntKind.i64.wrap ((k : Int) + (t : Int)) = (k : Int) + (t : Int) := IntWalk.i64_in _ (by omega)
          have q3 : IntKind.i64.wrap (t : Int) = (t : Int) := IntWalk.i64_in _ (by omega)
          have q4 : IntKind.i64.wrap (j : Int) = (j : Int) := IntWalk.i64_in _ (by omega)
          obtain ⟨y0, y9⟩ := hyb
          have hb' : b < wr.heap.size := Nat.lt_of_lt_of_le hb hBE.size
          have K : Hid (∀ z, Below wr.heap.size wr z → z.cell? ⟨g5 + 1, 0, none⟩ = some (.int .i64 (s / 4294967296)) ∧ z.cell? ⟨g5 + 1, 1, none⟩ = some (.int .i64 (s % 4294967296)) ∧ z.cell? ⟨b, o + j, none⟩ = some (.int .i64 y)) :=
            Lib.hid fun z hz => ⟨(hz.cell (p := ⟨g5 + 1, 0, none⟩) hz7).trans hc70, (hz.cell (p := ⟨g5 + 1, 1, none⟩) hz7).trans hc71, (hz.cell (p := ⟨b, o + j, none⟩) hb').trans hcy⟩
          clear hin1 hin2 hin3 hj1 hye hyr
          go_wp2_with fail
          go_region_held3 (fun w' => w'.cell? ⟨g5 + 1, 0, none⟩ = some (.int .i64 (s / 4294967296)) ∧ w'.cell? ⟨g5 + 1, 1, none⟩ = some (.int .i64 (s % 4294967296)) ∧ w'.cell? ⟨b, o + j, none⟩ = some (.int .i64 y))
            (first
              | exact K.out _ hd2
              | exact K.out _ hd1
              | exact K.out _ (below_then hd2 (below_a1 _ _))
              | exact K.out _ (below_then hd1 (below_a1 _ _))
              | exact K.out _ ((hd2.setCell (p := ⟨wr.heap.size, 0, none⟩) (Nat.le_refl _) _).setCell (p := ⟨wr.heap.size, 1, none⟩) (Nat.le_refl _) _)
              | exact K.out _ ((hd2.setCell (p := ⟨y1.heap.size, 0, none⟩) hd1.size _).setCell (p := ⟨y1.heap.size, 1, none⟩) hd1.size _)
              | exact K.out _ (Below.drew (Below.refl _ _))
              | exact K.out _ (Below.drew (below_a1 _ _)))
            (first
              | (go_at_call 9; refine (of_any y _ y0 y9).mono ?_; rintro e y1 ⟨rfl, hb1⟩; have hd1 := below_then (Below.drew (below_a1 wr (.cells #[.int .i64 0, .int .i64 0] 23))) hb1; have hp : Block y1 wr.heap.size 23 #[.int .i64 0, .int .i64 0] := Block.below (w := (wr.alloc (.cells #[.int .i64 0, .int .i64 0] 23)).drew) (Block.new wr 23 #[.int .i64 0, .int .i64 0]) hb1 (by simp))
              | (go_at_call 9; refine (of_any y _ y0 y9).mono ?_; rintro e y1 ⟨rfl, hb1⟩; have hd1 : Below wr.heap.size wr y1 := below_then (below_drawn (w := wr) 1) hb1)
              | (go_at_call 18; have hpp := hp; clear hpp; refine (HA.out _).mono ?_; rintro e y2 ⟨rfl, hb2⟩; have hd2 : Below wr.heap.size wr y2 := below_then hd1 hb2; have hn := hp.below hb2 hp.lt; have hn0 : y2.cell? ⟨wr.heap.size, 0, none⟩ = some (.int .i64 0) := hn.cell 0; have hn1 : y2.cell? ⟨wr.heap.size, 1, none⟩ = some (.int .i64 0) := hn.cell 1; have hm0 := hn.free 0; have hm1 := hn.free 1)
              | (go_at_call 18; refine (HA.out _).mono ?_; rintro e y2 ⟨rfl, hb2⟩; have hd2 : Below wr.heap.size wr y2 := below_then (below_then hd1 (below_a1 _ (.cells #[.int .i64 0, .int .i64 0] 23))) hb2; have hn : Block y2 y1.heap.size 23 #[.int .i64 0, .int .i64 0] := block_new hb2 rfl; have hn0 : y2.cell? ⟨y1.heap.size, 0, none⟩ = some (.int .i64 0) := hn.cell 0; have hn1 : y2.cell? ⟨y1.heap.size, 1, none⟩ = some (.int .i64 0) := hn.cell 1; have hm0 := hn.free 0; have hm1 := hn.free 1)
              | (go_at_call 18; refine (HA.out _).mono ?_; rintro e y2 ⟨rfl, hb2⟩; have hd2 : Below wr.heap.size wr y2 := below_then hd1 hb2))
          all_goals
            first
              | (have h1 : Block ((y2.setCell ⟨y1.heap.size, 0, none⟩ (.int .i64 ((s + y) / 4294967296))).setCell ⟨y1.heap.size, 1, none⟩ (.int .i64 ((s + y) % 4294967296))) y1.heap.size 23 #[.int .i64 ((s + y) / 4294967296), .int .i64 ((s + y) % 4294967296)] := (hn.set_ 0 _).set_ 1 _
                 have h2 := (hd2.setCell (p := ⟨y1.heap.size, 0, none⟩) hd1.size (.int .i64 ((s + y) / 4294967296))).setCell (p := ⟨y1.heap.size, 1, none⟩) hd1.size (.int .i64 ((s + y) % 4294967296))
                 have h3 := hd1.size
                 generalize (y2.setCell ⟨y1.heap.size, 0, none⟩ (.int .i64 ((s + y) / 4294967296))).setCell ⟨y1.heap.size, 1, none⟩ (.int .i64 ((s + y) % 4294967296)) = vE at h1 h2 ⊢
                 generalize y1.heap.size = g9 at h1 h3 ⊢
                 clear hn0 hn1 hm0 hm1 hn hd1 hd2 hb1 hb2)
              | (have h1 : Block ((y2.setCell ⟨wr.heap.size, 0, none⟩ (.int .i64 ((s + y) / 4294967296))).setCell ⟨wr.heap.size, 1, none⟩ (.int .i64 ((s + y) % 4294967296))) wr.heap.size 23 #[.int .i64 ((s + y) / 4294967296), .int .i64 ((s + y) % 4294967296)] := (hn.set_ 0 _).set_ 1 _
                 have h2 := (hd2.setCell (p := ⟨wr.heap.size, 0, none⟩) (Nat.le_refl _) (.int .i64 ((s + y) / 4294967296))).setCell (p := ⟨wr.heap.size, 1, none⟩) (Nat.le_refl _) (.int .i64 ((s + y) % 4294967296))
                 generalize (y2.setCell ⟨wr.heap.size, 0, none⟩ (.int .i64 ((s + y) / 4294967296))).setCell ⟨wr.heap.size, 1, none⟩ (.int .i64 ((s + y) % 4294967296)) = vE at h1 h2 ⊢
                 generalize hg9 : wr.heap.size = g9 at h1 ⊢
                 have h3 := Nat.le_of_eq hg9
                 clear hn0 hn1 hm0 hm1 hn hd1 hd2 hb1 hb2 hg9)
              | (have h1 := Block.new y2 23 #[.int .i64 ((s + y) / 4294967296), .int .i64 ((s + y) % 4294967296)]
                 have h2 := below_then hd2 (below_a1 y2 (.cells #[.int .i64 ((s + y) / 4294967296), .int .i64 ((s + y) % 4294967296)] 23))
                 have h3 := hd2.size
                 generalize y2.alloc (.cells #[.int .i64 ((s + y) / 4294967296), .int .i64 ((s + y) % 4294967296)] 23) = vE at h1 h2 ⊢
                 generalize y2.heap.size = g9 at h1 h3 ⊢
                 clear hd1 hd2 hb1 hb2)
            have hB7E := hB7.below h2 hB7.lt
            have hB5E := hB5.below h2 hB5.lt
            have hRE := hR.below (h2.mono hBE.size) (Nat.le_refl _)
            have hBEE := hBE.trans (h2.mono hBE.size)
            have hne : g9 ≠ g5 + 1 := by omega
            have hgz1 : wc.heap.size ≤ g5 + 1 := by omega
            have hx0 : vE.cell? ⟨g9, 0, none⟩ = some (.int .i64 ((s + y) / 4294967296)) := h1.cell 0
            have hx1 : vE.cell? ⟨g9, 1, none⟩ = some (.int .i64 ((s + y) % 4294967296)) := h1.cell 1
            have hy0 : vE.cell? ⟨g5 + 1, 0, none⟩ = some (.int .i64 (s / 4294967296)) := hB7E.cell 0
            have hy1 : vE.cell? ⟨g5 + 1, 1, none⟩ = some (.int .i64 (s % 4294967296)) := hB7E.cell 1
            have hf0 := hB7E.free 0
            have hf1 := hB7E.free 1
            have hN7 := Lib.hid ((hB7E.set_ 0 (.int .i64 ((s + y) / 4294967296))).set_ 1 (.int .i64 ((s + y) % 4294967296)))
            have hN5 := Lib.hid ((hB5E.elsewhere (g5 + 1) 0 (.int .i64 ((s + y) / 4294967296)) (by omega)).elsewhere (g5 + 1) 1 (.int .i64 ((s + y) % 4294967296)) (by omega))
            have hNB := Lib.hid ((hBEE.setCell (p := ⟨g5 + 1, 0, none⟩) hgz1 (.int .i64 ((s + y) / 4294967296))).setCell (p := ⟨g5 + 1, 1, none⟩) hgz1 (.int .i64 ((s + y) % 4294967296)))
            have hNS := Lib.hid (((Below.refl wc.heap.size vE).setCell (p := ⟨g5 + 1, 0, none⟩) hgz1 (.int .i64 ((s + y) / 4294967296))).setCell (p := ⟨g5 + 1, 1, none⟩) hgz1 (.int .i64 ((s + y) % 4294967296)))
            have hNR := Lib.hid (hRE.below hNS.out (Nat.le_refl _))
            clear h1 h2 h3 hB7 hB5 hB7E hB5E hR hRE hBE hBEE hNS K hc70 hc71 hc50 hc51 hcy hb hb' hz7 HA q1 q2 q3 q4 n0 n1 n2 n3 hkt hkt2 i2 i3 y0 y9 hj0
            go_wp2_with fail
            go_roundw
            case rel => exact ⟨k + 1, s + y, by omega, by go_num, hsy, hN5.out, hN7.out, hNR.out, hNB.out⟩
            case measure => simp [intOf]; omega
        · have hkm : k = m := by omega
          have hsS : s = S := by
            rw [hse.out, hS.out, hkm]
            rw [List.take_of_length_le (by rw [rotI_length, Hlen.out]; exact Nat.le_refl _), rotI_sum]
          subst hkm hsS
          have hi1 : ¬ (k : Int) < (k : Int) := by omega
          clear hse hS HP hB5 hB7 hR hk hlt
          go_wp2_with fail
          refine (lives_any _).mono ?_
          rintro e z ⟨rfl, hz⟩
          have hEnd := below_then hBE hz
          go_wp2_with fail
          go_ret
          exact ⟨rfl, hEnd⟩

set_option maxRecDepth 100000 in
theorem lifted (os : Os) (started : os.Started) (H : Type) (enc : TypeId × Value → H) :
    ReturnsInHanded {} Try.checked os 8 .any (Rows.wideOrderSpec.pre6 enc Try.prog Try.f8 Rows.wideOrderRow.domain false) (Rows.wideOrderSpec.post enc Try.prog Try.f8 false true false false) := by
  refine returnsInHanded_of_change (C := Try.checked) own started (by kernel_rfl) Try.func8
    (ChangeSpec.witness6 (enc := enc) (C := Try.checked) false ⟨#[], #[.slice none 0 0, .int .i64 0], []⟩ 8 (by kernel_rfl) (by kernel_rfl) (by kernel_rfl) (by kernel_rfl)) ?_
  intro W base args ds gs before hval0 hW hcnd _
  have hval : ∀ (j : Nat) t v, Try.f8.params[j]? = some t → args[j]? = some v → Value.okWide Try.prog W .any base t v := hval0
  have hW' := hW
  obtain ⟨p, q, hA0, hV, rfl, hfz, hnd⟩ := hW
  have hA : DataW.TrodAll enc Try.prog W 0 (fun _ => true) true Try.f8.params.toList args.toList ds p := hA0
  rw [Try.params8] at hA hval
  obtain ⟨v0, vs0, d0, ds0, p0, q0, hargs, rfl, rfl, h0, r0⟩ := trodAll_cons hA
  obtain ⟨v1, vs1, d1, ds1, p1, q1, rfl, rfl, rfl, h1, r1⟩ := trodAll_cons r0
  obtain ⟨rfl, rfl, rfl⟩ := trodAll_nil r1
  obtain rfl : args = #[v0, v1] := by cases args; simp_all
  obtain ⟨rfl, rfl⟩ := trodVars_none hV
  obtain ⟨a0, len0, cap0, rfl⟩ := okWide_slice Try.underlying29 (hval 0 29 v0 rfl rfl)
  have k0 := h0
  have lt0 : ∀ x ∈ p0, x.block < W.heap.size := by obtain ⟨m, hm⟩ := k0; exact DataW.trod_lt m _ _ _ hm
  obtain ⟨z0, w0⟩ : ∃ zs, IsRow .i64 W a0 len0 cap0 zs := by
    obtain ⟨fuel, hf⟩ := h0
    rcases open_ints Try.underlying29 Try.underlying3 (by kernel_rfl) hf with ⟨hcs, _⟩ | ⟨x, l, c, zs, hcs, _, hl, hm, hz, _, hcell, hwz⟩
    · simp [Value.cells] at hcs
      obtain ⟨rfl, rfl, rfl⟩ := hcs
      exact ⟨[], .inl ⟨rfl, rfl, rfl, rfl⟩⟩
    · simp [Value.cells] at hcs
      obtain ⟨rfl, rfl, rfl⟩ := hcs
      exact ⟨zs, .inr ⟨_, rfl, hl, hm, by simpa using hz, hcell, hwz⟩⟩
  obtain ⟨a1, rfl, rfl, rfl, w1⟩ := open_int Try.underlying3 (hval 1 3 v1 rfl rfl) h1
  clear hA0 hval0
  refine (walk a0 len0 cap0 z0 a1 W w0 w1).mono fun e W' ⟨he, bel⟩ => ?_
  subst he
  exact ⟨_, rfl, _, _, _, [], _, [], hW', trodAll_mk1 (shut_bool Try.underlying4 _), (trodAll_cons_mk (Below.trod laidOut (by kernel_rfl) (of_decide_eq_true (by kernel_rfl)) k0 bel lt0) (trodAll_cons_mk (shut_int Try.underlying3 w1) trodAll_mk0)), rfl, bel.frame _, fun h => by cases h⟩

theorem over : Rows.wideOrderRow.holds Try.pinned (OpenSpec.ofChange Rows.wideOrderSpec) :=
  OpenClaim.holds_of_wide 8 Try.f8 rfl rfl rfl rfl rfl rfl rfl ⟨rfl, rfl, rfl, rfl, rfl⟩ rfl rfl rfl rfl rfl (by kernel_rfl) Try.func8 (by kernel_rfl)
    (of_decide_eq_true (by kernel_rfl)) (by unfold Func.isWrapper; first | (rw [if_pos (by decide +kernel)]; kernel_rfl) | (rw [if_neg (by decide +kernel)]; exact ⟨rfl, rfl⟩))
    (fun os started H enc _ => lifted os started H enc)

theorem proved : Rows.WideOrderSaid := over
end Go.Proofs.Ytdajjphgehbacaa.wideOrder
