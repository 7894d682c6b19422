/- Layer 7: may a path be the next one to come? -/
import Derived.Test.YtccdjjpkcahgfaaDictQ
import Derived.Test.YtccdjjpkcahgfaaBel
import Derived.Deep.RegionHeld3
namespace Go.Proofs.Ytccdjjpkcahgfaa
open Go.RowKit

set_option maxRecDepth 100000 in
set_option maxHeartbeats 2000000 in
theorem mayCome_any {w : World} {base g : Nat} {pv : Value} {bm n : Nat} {Q : List Pth} (h : Dc w base g pv bm n Q) {a : Nat} {s : Txt} (ha : a ≤ Q.length) (hs : s.length ≤ maxLen) {r : Bool} (hr : Hid (decide (mayC n Q a s) = r)) :
    Calls Try.prog 60 #[.pointer (some ⟨g, 0, none⟩), .agg #[.int .i64 (a : Int), .string ⟨s.toArray⟩]] w fun e w' => e = .returned (.bool r) ∧ Below w.heap.size w w' := by
  have hgl := h.block.lt
  have hQ := h.good.size
  obtain ⟨q, hq⟩ : ∃ q, Hid (pth Q a = q) := ⟨_, Lib.hid rfl⟩
  obtain ⟨d, hd⟩ : ∃ d, Hid (dueP n Q = d) := ⟨_, Lib.hid rfl⟩
  have hb1 := below_a1 w (.cells #[.int .i64 (a : Int), .string ⟨s.toArray⟩] 77)
  obtain ⟨v, hv⟩ : ∃ v, v = w.alloc (.cells #[.int .i64 (a : Int), .string ⟨s.toArray⟩] 77) := ⟨_, rfl⟩
  have hbx : Block v w.heap.size 77 #[.int .i64 (a : Int), .string ⟨s.toArray⟩] := by rw [hv]; exact Block.new w _ _
  rw [← hv] at hb1
  have hD := h.below hb1
  have HD := Lib.hid hD
  have hvs : w.heap.size < v.heap.size := hbx.lt
  have K : Hid (∀ y, Below v.heap.size v y → y.cell? ⟨g, 0, none⟩ = some (.int .i64 (n : Int)) ∧ y.cell? ⟨w.heap.size, 0, none⟩ = some (.int .i64 (a : Int)) ∧ y.cell? ⟨w.heap.size, 1, none⟩ = some (.string ⟨s.toArray⟩)) := Lib.hid fun y hy =>
    ⟨(hD.below hy).c0, (hbx.below hy hvs).cell 0, (hbx.below hy hvs).cell 1⟩
  have k0 : v.cell? ⟨g, 0, none⟩ = some (.int .i64 (n : Int)) := hD.c0
  have k1 : v.cell? ⟨w.heap.size, 0, none⟩ = some (.int .i64 (a : Int)) := hbx.cell 0
  have k2 : v.cell? ⟨w.heap.size, 1, none⟩ = some (.string ⟨s.toArray⟩) := hbx.cell 1
  have Hb1 := Lib.hid hb1
  clear hbx hb1 hD
  by_cases hnm : nameP s
  · have hnm0 := Lib.hid hnm
    have hny := Lib.hid (fun W => name_yes hnm W)
    by_cases hlen : q.length < n
    · have hmap := Lib.hid (fun (W : World) (hW : Below v.heap.size v W) => (HD.out.below hW).map)
      have hfe := Lib.hid (HD.out.good.fnd_ents (s := s) ha)
      have hme := HD.out.good.mem_ents (s := s) ha
      rw [hq.out] at hme hfe
      clear hnm
      go_enter Try.func60, Try.ntmps60
      go_wp2_with fail
      rw [← hv]
      clear hv
      go_region_held3 (fun w' => w'.cell? ⟨g, 0, none⟩ = some (.int .i64 (n : Int)) ∧ w'.cell? ⟨w.heap.size, 0, none⟩ = some (.int .i64 (a : Int)) ∧ w'.cell? ⟨w.heap.size, 1, none⟩ = some (.string ⟨s.toArray⟩))
        (first
          | go_keep
          | exact K.out _ hB2
          | exact K.out _ hB1)
        (first
          | (go_at_call 55; refine (hny.out _).mono ?_; rintro e w1 ⟨rfl, hb1⟩; have hB1 : Below v.heap.size v w1 := (below_drewN (Below.refl _ v) 1).trans hb1)
          | (go_at_call 54; refine (line_any (HD.out.below hB1) a ha hq).mono ?_; rintro e w2 ⟨vl, rfl, hO, hb2⟩; obtain ⟨A, n', c', rfl, hI, _⟩ := hO.formN; have hn' : n' = q.length + 1 := (by rw [← hI.len, cds_len]); have hgt : ¬ (n : Int) < (n' : Int) := (by omega); have hB2 := hB1.trans (hb2.mono hB1.size); clear hO hI hn'))
      have HB2 := Lib.hid hB2
      obtain ⟨j0, j1, j2⟩ := K.out w2 hB2
      have c2 := (HD.out.below hB2).c2
      have hlk := fun t => ((hmap.out w2 hB2).drewN t).look (a := a) (s := s) (by omega) hs
      rw [hfe.out] at hlk
      obtain ⟨f, hf⟩ : ∃ f, Hid (fnd Q (q ++ [s]) = f) := ⟨_, Lib.hid rfl⟩
      rw [hf.out] at hlk
      have hdue := fun t => due_any ((HD.out.below hB2).drewN t) hd
      clear hB1 hB2 hb1 hb2
      by_cases hin : q ++ [s] ∈ Q
      · have hrun : ∀ t, (Instr.lookup 66 (.map (some bm)) (.agg #[.int .i64 (a : Int), .string ⟨s.toArray⟩]) true).run Try.prog (w2.drewN t) = .ok (.tuple #[.int .i64 (f : Int), .bool true]) (w2.drewN t) := fun t => by
          have := hlk t
          rwa [decide_eq_true (hme.2 hin)] at this
        have hm : r = false := by rw [← hr.out]; exact decide_eq_false fun hm => hm.2.2.1 (by rw [hq.out]; exact hin)
        subst hm
        clear hlk hme hin hr
        go_wp2_with fail
        go_quiet (fail)
        go_wp2_with fail
        refine (hdue _).mono ?_
        rintro e w3 ⟨rfl, hB3⟩
        have hF := Lib.hid (Hb1.out.trans (((below_drewN HB2.out _).trans (hB3.mono HB2.out.size)).mono (Nat.le_of_lt hvs)))
        clear hB3 hrun hdue
        go_wp2_with fail
        go_ret
        exact ⟨rfl, hF.out⟩
      · have hrun : ∀ t, (Instr.lookup 66 (.map (some bm)) (.agg #[.int .i64 (a : Int), .string ⟨s.toArray⟩]) true).run Try.prog (w2.drewN t) = .ok (.tuple #[.int .i64 (f : Int), .bool false]) (w2.drewN t) := fun t => by
          have := hlk t
          rwa [decide_eq_false (fun h => hin (hme.1 h))] at this
        have hrd : Hid (decide (d = 0 ∨ d = a) = r) := Lib.hid (by
          rw [← hr.out]
          refine decide_eq_decide.2 ⟨fun h => ⟨Classical.byContradiction fun hn => ?_, by rw [hq.out]; exact hlen, by rw [hq.out]; exact hin, by rw [hd.out]; exact h⟩, fun h => by have := h.2.2.2; rwa [hd.out] at this⟩
          exact absurd hn (by simpa using hnm0.out))
        clear hlk hme hin hr
        go_wp2_with fail
        go_quiet (fail)
        go_wp2_with fail
        refine (hdue _).mono ?_
        rintro e w3 ⟨rfl, hB3⟩
        have hB23 := (below_drewN HB2.out nq).trans (hB3.mono HB2.out.size)
        have hF := Lib.hid (Hb1.out.trans (hB23.mono (Nat.le_of_lt hvs)))
        obtain ⟨_, j1', _⟩ := K.out w3 hB23
        clear hB3 hB23 hrun hdue
        by_cases hd0 : d = 0
        · subst hd0
          have hm : r = true := by rw [← hrd.out]; simp
          subst hm
          go_wp2_with fail
          go_ret
          exact ⟨rfl, hF.out⟩
        · have hd1 : ((d : Int) == 0) = false := by simp; omega
          by_cases hda : d = a
          · subst hda
            have hm : r = true := by rw [← hrd.out]; simp
            subst hm
            go_wp2_with fail
            go_ret
            exact ⟨rfl, hF.out⟩
          · have hd2 : ((d : Int) == (a : Int)) = false := by simp; omega
            have hm : r = false := by rw [← hrd.out]; simp [hd0, hda]
            subst hm
            clear hda
            go_wp2_with fail
            go_ret
            exact ⟨rfl, hF.out⟩
    · have hm : r = false := by rw [← hr.out]; exact decide_eq_false fun hm => hlen (by have := hm.2.1; rwa [hq.out] at this)
      subst hm
      clear hr hnm
      go_enter Try.func60, Try.ntmps60
      go_wp2_with fail
      rw [← hv]
      clear hv
      go_region_held3 (fun w' => w'.cell? ⟨g, 0, none⟩ = some (.int .i64 (n : Int)) ∧ w'.cell? ⟨w.heap.size, 0, none⟩ = some (.int .i64 (a : Int)) ∧ w'.cell? ⟨w.heap.size, 1, none⟩ = some (.string ⟨s.toArray⟩))
        (first
          | go_keep
          | exact K.out _ hB2
          | exact K.out _ hB1)
        (first
          | (go_at_call 55; refine (hny.out _).mono ?_; rintro e w1 ⟨rfl, hb1⟩; have hB1 : Below v.heap.size v w1 := (below_drewN (Below.refl _ v) 1).trans hb1)
          | (go_at_call 54; refine (line_any (HD.out.below hB1) a ha hq).mono ?_; rintro e w2 ⟨vl, rfl, hO, hb2⟩; obtain ⟨A, n', c', rfl, hI, _⟩ := hO.formN; have hn' : n' = q.length + 1 := (by rw [← hI.len, cds_len]); have hgt : (n : Int) < (n' : Int) := (by omega); have hB2 := hB1.trans (hb2.mono hB1.size); clear hO hI hn'))
      have hF := Lib.hid (Hb1.out.trans (hB2.mono (Nat.le_of_lt hvs)))
      clear hB1 hB2 hb1 hb2
      go_wp2_with fail
      go_ret
      exact ⟨rfl, hF.out⟩
  · have hnn := Lib.hid (fun W => name_no hnm W)
    have hm : r = false := by rw [← hr.out]; exact decide_eq_false fun hm => hnm hm.1
    subst hm
    clear hr hnm
    go_enter Try.func60, Try.ntmps60
    go_wp2_with fail
    rw [← hv]
    clear hv
    have HN := Lib.hid fun (y : Bel v) => y.calls fun w _ => hnn.out w
    have z2 : ∀ y : Bel v, y.w.cell? ⟨w.heap.size, 1, none⟩ = some (.string ⟨s.toArray⟩) := fun y => y.cell k2
    refine wp_region_below (by kernel_rfl) (by kernel_rfl) ?_
    repeat (go_big_quiet_step ((go_at_call 55; exact HN.out _)))
    refine wpQuiet_nil ?_
    rintro _ ⟨⟨w2, hb2⟩, rfl⟩
    have hF := Lib.hid (Hb1.out.trans (hb2.mono (Nat.le_of_lt hvs)))
    clear z2 hb2
    go_wp2_with fail
    go_ret
    exact ⟨rfl, hF.out⟩
end Go.Proofs.Ytccdjjpkcahgfaa
