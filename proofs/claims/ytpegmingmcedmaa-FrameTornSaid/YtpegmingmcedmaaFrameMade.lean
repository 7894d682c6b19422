/- Layer 3's statements: the bytes of some frames, what they are, where each ends. -/
import Derived.Test.YtpegmingmcedmaaFramePut
import Derived.Test.YtpegmingmcedmaaFrameRow
import Derived.Test.YtpegmingmcedmaaFew
import Derived.Test.YtpegmingmcedmaaReads
import Derived.Outline
namespace Go.Proofs.Ytpegmingmcedmaa
open Go.RowKit

theorem cells_part : Try.prog.cellsOf 62 = 2 := by kernel_rfl
theorem cells_int3 : Try.prog.cellsOf 3 = 1 := by kernel_rfl
theorem cells_u8 : Try.prog.cellsOf 5 = 1 := by kernel_rfl
theorem cells_bytes : Try.prog.cellsOf 22 = 1 := by kernel_rfl
/-- What came in as a row of kinds and bodies. -/
theorem parts_of {w : World} {a : Option Addr} {n c : Nat} (h : RC Try.prog w 45 [.slice a n c]) (hn : 0 < n) :
    ∃ b o, a = some ⟨b, o, none⟩ ∧ b < w.heap.size ∧ n ≤ c ∧ c ≤ maxLen ∧ ∀ i, i < n → ∃ (x : Int) (A' : Option Addr) (n' c' : Nat) (l : List UInt8), w.cell? ⟨b, o + i * 2, none⟩ = some (.int .i64 x) ∧ w.cell? ⟨b, o + i * 2 + 1, none⟩ = some (.slice A' n' c') ∧ HasB w w.heap.size A' n' c' l ∧ -9223372036854775808 ≤ x ∧ x ≤ 9223372036854775807 := by
  obtain ⟨b, o, rfl, hb, hnc, hcm, hi⟩ := h.rows Try.underlying45 (by rw [cells_part]; decide) hn
  refine ⟨b, o, rfl, hb, hnc, hcm, fun i hin => ?_⟩
  obtain ⟨cs, hl, hc, hr⟩ := hi i hin
  rw [cells_part] at hl hc
  obtain ⟨x, hx, hw⟩ := RC.int Try.underlying3 (hr.field Try.underlying62 0 _ rfl)
  have hbf := hr.field Try.underlying62 1 _ rfl
  obtain ⟨A', n', c', hs⟩ := hbf.slice_shape Try.underlying22
  rw [hs] at hbf
  obtain ⟨l, hh⟩ := hbf.bytes Try.underlying22 Try.underlying5 cells_u8
  have hx : (cs.drop 0).take (Try.prog.cellsOf 3) = [.int .i64 x] := hx
  have hs : (cs.drop 1).take (Try.prog.cellsOf 22) = [.slice A' n' c'] := hs
  rw [cells_int3] at hx
  rw [cells_bytes] at hs
  match cs, hl with
  | [u0, u1], _ =>
    simp at hx hs
    subst hx hs
    obtain ⟨h0, h1⟩ := i64_of_wf hw
    exact ⟨x, A', n', c', l, hc 0 (by decide), hc 1 (by decide), hh, h0, h1⟩

/-- Where each frame ends. -/
def frEnds (fs : List Fr) : List Value := (List.range fs.length).map fun j => .int .i64 ((frCat (fs.take (j + 1))).length : Int)
theorem frEnds_length (fs : List Fr) : (frEnds fs).length = fs.length := by simp [frEnds]
theorem frEnds_snoc (fs : List Fr) (f : Fr) : frEnds (fs ++ [f]) = frEnds fs ++ [.int .i64 ((frCat (fs ++ [f])).length : Int)] := by
  unfold frEnds
  rw [List.length_append, List.length_singleton, List.range_succ, List.map_append]
  congr 1
  · apply List.map_congr_left
    intro j hj
    rw [List.take_append_of_le_length (by have := List.mem_range.1 hj; omega)]
  · rw [List.map_singleton, List.take_of_length_le (by simp)]
theorem frEnds_get (fs : List Fr) (j : Nat) (hj : j < fs.length) : (frEnds fs)[j]? = some (.int .i64 ((frCat (fs.take (j + 1))).length : Int)) := by
  simp [frEnds, hj]
/-- A frame as these statements make them. -/
def FrSmall (f : Fr) : Prop := f.1 < 256 ∧ f.2.length ≤ 100
theorem FrSmall.may {f : Fr} (h : FrSmall f) : FrMay f := ⟨h.1, by have := h.2; omega⟩
theorem frCat_small {fs : List Fr} (h : ∀ f ∈ fs, FrSmall f) : (frCat fs).length ≤ fs.length * 109 := by
  induction fs with
  | nil => simp [frCat]
  | cons f fs ih =>
    have h1 := (h f (by simp)).2
    have h2 := ih fun g hg => h g (by simp [hg])
    show (frOf f.1 f.2 ++ frCat fs).length ≤ _
    rw [List.length_append, frOf_length, List.length_cons]
    omega

/-- What is made, so far. -/
structure Made (w wr : World) (vb vw ve : Value) (fs : List Fr) : Prop where
  small : ∀ f ∈ fs, FrSmall f
  bytes : OwnB wr w.heap.size 5 vb (frCat fs)
  want : FrRow wr w.heap.size 34 vw fs (InB w w.heap.size)
  ends : wr.ownsRow w.heap.size 3 1 ve fs.length (frEnds fs)
  below : Below w.heap.size w wr

theorem info_ref034 : (Try.prog.info? 34).map (fun i => (i.zero, i.size, i.bytes)) = some (some (.agg #[.int .i64 0, .slice none 0 0]), 2, 32) := by kernel_rfl
theorem info_int3 : (Try.prog.info? 3).map (fun i => (i.zero, i.size, i.bytes)) = some (some (.int .i64 0), 1, 8) := by kernel_rfl

set_option maxRecDepth 100000 in
set_option maxHeartbeats 2000000 in
theorem made_any (a : Option Addr) (n c : Nat) (w : World) (hr : RC Try.prog w 45 [.slice a n c]) (hn : n ≤ 9223372036854775807) :
    Calls Try.prog 19 #[.slice a n c] w fun e w' => ∃ vb vw ve fs, e = .returned (.tuple #[vb, vw, ve]) ∧ Made w w' vb vw ve fs ∧ fs.length ≤ 12 := by
  obtain ⟨i1, hi1, hz1, hy1, hx1⟩ := info_parts info_ref034
  obtain ⟨i2, hi2, hz2, hy2, hx2⟩ := info_parts info_int3
  go_enter Try.func19, Try.ntmps19
  go_wp2
  go_loopw [5, 6, 7, 8] (fun vb vw ve i wr => ∃ (k : Nat) (fs : List Fr), k ≤ n ∧ k ≤ 12 ∧ i = .int .i64 k ∧ Hid (fs.length = k) ∧ Made w wr vb vw ve fs) (fun _ _ _ i _ => 12 - (intOf i).toNat)
  case atStart => exact ⟨0, [], Nat.zero_le _, Nat.zero_le _, rfl, rfl, fun f hf => by simp at hf, OwnB.nil_ _ _ _, FrRow.nil_ _ _ _ _, World.ownsRow_nil _ _ _ _, Below.refl _ _⟩
  case round =>
    obtain ⟨k, fs, hk, hk12, rfl, hfl, hM⟩ := hrel
    by_cases hlt : k < n ∧ k < 12
    · obtain ⟨hlt1, hlt2⟩ := hlt
      obtain ⟨b, o, rfl, hb, hnc, hcm, hp⟩ := parts_of hr (by omega)
      obtain ⟨x, A', n', c', l, hc0, hc1, hh, hx0, hx9⟩ := hp k hlt1
      have hk0 := (hM.below.cell (p := ⟨b, o + k * 2, none⟩) hb).trans hc0
      have hk1 := (hM.below.cell (p := ⟨b, o + k * 2 + 1, none⟩) hb).trans hc1
      have hhr := hh.below hM.below (Nat.le_refl _)
      have i0 : (0 : Int) ≤ (k : Int) := by omega
      have i1' : (k : Int) < (n : Int) := by omega
      unfold maxLen at hcm
      clear hp hc0 hc1
      obtain ⟨t, ht⟩ : ∃ t, x.tmod 256 = t := ⟨_, rfl⟩
      have ht1 : -256 < t ∧ t < 256 := by
        subst ht
        have h1 := Int.tmod_lt_of_pos x (b := 256) (by decide)
        have h2 := Int.tmod_lt_of_pos (-x) (b := 256) (by decide)
        rw [Int.neg_tmod] at h2
        omega
      obtain ⟨q, hq⟩ : ∃ q : Nat, (0 ≤ t ∧ t = q) ∨ (t < 0 ∧ t = -(q : Int)) := by
        by_cases h : 0 ≤ t
        · exact ⟨t.toNat, .inl ⟨h, by omega⟩⟩
        · exact ⟨(-t).toNat, .inr ⟨by omega, by omega⟩⟩
      have hq256 : q < 256 := by omega
      clear ht1
      rcases hq with ⟨hq0, rfl⟩ | ⟨hq0, rfl⟩
      all_goals
        go_wp2_with fail
        refine (few_any _ _ _ _ _ _ hhr 100 (by omega)).mono ?_
        rintro e w' ⟨⟨m, rfl, hbody, -, hm⟩, rfl⟩
        have hm100 : m ≤ 100 := hm
        have hw0 : HasB w w.heap.size A' m c' (l.take (Int.toNat 100)) := ⟨hbody.len, hbody.cap, hbody.fit, hbody.void, hh.has |>.take_ _ |> fun h => by rwa [← List.map_take] at h⟩
        clear hm hhr hh
        generalize l.take (Int.toNat 100) = body at hbody hw0
        have hz := hM.below.size
        obtain ⟨hsm, hby, hwa, hen, hbe⟩ := hM
        have hcl := frCat_small hsm
        have hfl0 := hfl.out
        obtain ⟨A1, n1, c1, rfl, hv1, -⟩ := hby.formN
        have hn1 : n1 ≤ 10000 := by have := hv1.len; omega
        clear hby hcl hfl0 ht
        go_wp2_with fail
        refine (put_any _ _ _ (frCat fs) q _ _ _ body _ hv1 (hbody.more hz) (by omega) hq256 (by omega)).mono ?_
        rintro e w2 ⟨⟨v2, rfl, ho2⟩, hb2⟩
        have hby2 : OwnB w2 w.heap.size 5 v2 (frCat (fs ++ [(q, body)])) := by rw [frCat_snoc]; exact ho2.low hz
        have hbe2 := hbe.trans (hb2.mono hz)
        have hz2 := hbe2.size
        have hwa2 := hwa.below hb2
        have hen2 := row_below hen hb2
        clear ho2 hb2 hwa hen hbe hv1 hbody
        obtain ⟨A2, n2, c2, rfl, hv2, -⟩ := hby2.formN
        have hl2 := Lib.hid hv2.len
        clear hv2
        obtain ⟨xs, hxs, hcs⟩ := hwa2
        go_wp2_with (at_builtin; refine wpList_append_own _ rfl _ _ 39 rfl w.heap.size 34 i1 (.agg #[.int .i64 0, .slice none 0 0]) 2 32 Try.underlying39 hi1 hz1 hy1 hx1 rfl (by decide) _ fs.length xs rfl (hxs.alloc _) _ 1 1 [.int .i64 (q : Int), .slice A' m c'] rfl rfl (cell_two_at _ _ _ _ _ (by simp)) (two_one _ _ _ _) (by have := hfl.out; unfold maxLen; omega) (by have := hfl.out; omega) (by simp; omega) ?_)
        intro v3 w3 hown3 hgrow3 _
        have hby3 : OwnB w3 w.heap.size 5 (.slice A2 n2 c2) (frCat (fs ++ [(q, body)])) := (OwnB.alloc hby2 _).kept hgrow3 (row_ne hby2 hxs (by decide))
        have hen3 : w3.ownsRow w.heap.size 3 1 u7 fs.length (frEnds fs) := (World.ownsRow.alloc hen2 _).kept hgrow3 (row_ne hen2 hxs (by decide))
        have hwa3 : FrRow w3 w.heap.size 34 v3 (fs ++ [(q, body)]) (InB w w.heap.size) := ⟨_, by simpa using hown3, hcs.snoc hxs.1 ⟨_, _, _, rfl, hw0⟩⟩
        have hbe3 : Below w.heap.size w w3 := (hbe2.alloc hz2 _).grown hgrow3 (by simp; omega) (fun g h => (hxs.lt g h).1)
        have hz3 := hbe3.size
        have hbl : Hid (body.length ≤ 100) := Lib.hid (by rw [hw0.len]; exact hm100)
        clear hby2 hen2 hxs hcs hbe2 hz2 hown3 hgrow3 hw0
        go_wp2_with (at_builtin; refine wpList_append_own _ rfl _ _ 46 rfl w.heap.size 3 i2 (.int .i64 0) 1 8 Try.underlying46 hi2 hz2 hy2 hx2 rfl (by decide) _ fs.length (frEnds fs) rfl (hen3.alloc _) _ 1 1 [.int .i64 (n2 : Int)] rfl rfl (cell_one_at _ _ _ _ (by simp)) (by intro u hu; simp at hu; subst hu; rfl) (by have := hfl.out; unfold maxLen; omega) (by have := hfl.out; omega) (by simp; omega) ?_)
        intro v4 w4 hown4 hgrow4 _
        have hby4 : OwnB w4 w.heap.size 5 (.slice A2 n2 c2) (frCat (fs ++ [(q, body)])) := (OwnB.alloc hby3 _).kept hgrow4 (row_ne hby3 hen3 (by decide))
        have hwa4 : FrRow w4 w.heap.size 34 v3 (fs ++ [(q, body)]) (InB w w.heap.size) := by
          obtain ⟨xs, h1, h2⟩ := hwa3
          exact ⟨xs, (World.ownsRow.alloc h1 _).kept hgrow4 (row_ne h1 hen3 (by decide)), h2⟩
        have hbe4 : Below w.heap.size w w4 := (hbe3.alloc hz3 _).grown hgrow4 (by simp; omega) (fun g h => (hen3.lt g h).1)
        have hen4 : w4.ownsRow w.heap.size 3 1 v4 (fs ++ [(q, body)]).length (frEnds (fs ++ [(q, body)])) := by
          rw [frEnds_snoc, hl2.out, List.length_append, List.length_singleton]
          exact hown4
        have hsm4 : ∀ f ∈ fs ++ [(q, body)], FrSmall f := fun f hf => by
          rcases List.mem_append.1 hf with h | h
          · exact hsm f h
          · simp at h; subst h; exact ⟨hq256, hbl.out⟩
        have hM4 : Hid (Made w w4 (.slice A2 n2 c2) v3 v4 (fs ++ [(q, body)])) := Lib.hid ⟨hsm4, hby4, hwa4, hen4, hbe4⟩
        have hfl4 : Hid ((fs ++ [(q, body)]).length = k + 1) := Lib.hid (by simp [hfl.out])
        clear hby3 hen3 hwa3 hbe3 hby4 hwa4 hbe4 hen4 hown4 hgrow4 hsm4
        go_wp2_with fail
        go_roundw
        case rel => exact ⟨k + 1, fs ++ [(q, body)], by omega, by omega, by go_num, hfl4, hM4.out⟩
        case measure => simp [intOf]; omega
    · obtain ⟨A2, n2, c2, rfl, hv2, -⟩ := hM.bytes.formN
      clear hv2
      have hF : Hid (Made w wr (.slice A2 n2 c2) u6 u7 fs) := Lib.hid hM
      clear hM
      go_wp2_with fail
      all_goals
        go_ret3
        exact ⟨_, _, _, fs, rfl, hF.out, by have := hfl.out; omega⟩
end Go.Proofs.Ytpegmingmcedmaa
