/- Layer 3: Put. -/
import Derived.Test.YtpegmingmcedmaaFrame
import Derived.Laws.CopyOwn
import Derived.OwnWalk
namespace Go.Proofs.Ytpegmingmcedmaa
open Go.RowKit

theorem info_u8_size : (Try.prog.info? 5).map (·.size) = some 1 := by kernel_rfl

/-- make with room, whatever the length. -/
theorem wpList_make_room {P : Program} (w : World) {ops : Array Oper} {rest : List Oper} {o : Oper} {a : Act} {Q : Exit → Act → World → Prop}
    (hg : o.guard = none) (l c : Operand) (t : TypeId) (hop : o.op = Op.makeSlice t l c)
    (e : TypeId) (i : TypeInfo) (z : Value) (h1 : P.underlying t = some (.slice e)) (h2 : P.info? e = some i) (h3 : i.zero = some z) (h4 : i.size = 1) (h5 : i.bytes = 1)
    (N C : Int) (n k : Nat) (hl : a.eval l = .int .i64 N) (hc : a.eval c = .int .i64 C) (hN : N = n) (hC : C = k) (hnk : n ≤ k) (hk : k ≤ 281474976710656)
    (hK : wpList P ops Q rest (a.put o.dst (.slice (some ⟨w.heap.size, 0, none⟩) n k)) (w.alloc (.cells (madeCells z.cells k).toList.toArray e))) :
    wpList P ops Q (o :: rest) a w := by
  subst hN hC
  refine wpList_plain hg fun K hK' => ?_
  have hrun := run_make (P := P) w t e i z h1 h2 h3 .i64 .i64 n k (by omega) (by omega) (by rw [h5]; omega) (by omega)
  rw [h4, Nat.mul_one, Int.toNat_natCast, Int.toNat_natCast] at hrun
  unfold Oper.wp
  simp [execOp, hop, hl, hc, hrun, Result.andThen]
  exact hK' _ _ (by simpa using hK)
/-- A row of the call's own, behind a copy into its beginning. -/
theorem OwnB.filled {w : World} {base g n cap : Nat} {e : TypeId} {cur : List Value} {l : List UInt8} (hc : cur.length = cap) (hl : l.length = n) (hn : n ≤ cap) (hcm : cap ≤ maxLen) (hb : base ≤ g)
    (h : w.heap[g]? = some (.cells (splice cur 0 (l.map byt)).toArray e (0, 0))) : OwnB w base e (.slice (some ⟨g, 0, none⟩) n cap) l := by
  subst hl
  refine ⟨by simp, .inr ⟨g, cap, _, rfl, hb, h, hn, hcm, ?_, ?_⟩⟩
  · simp [splice]; omega
  · rw [Nat.mul_one]
    show (splice cur 0 (l.map byt)).take l.length = _
    unfold splice
    rw [List.take_zero, List.nil_append]
    exact List.take_left' (by simp)
/-- What HasB says of a source of copy. -/
theorem HasB.source {w : World} {B n c : Nat} {A : Option Addr} {l : List UInt8} (h : HasB w B A n c l) (h0 : 0 < (l.map byt).length) : ∃ ad, A = some ad ∧ ∀ j v, (l.map byt)[j]? = some v → w.cell? (ad.add j) = some v := by
  obtain ⟨b, o, rfl, _, hc⟩ := h.has h0
  exact ⟨_, rfl, fun j v hv => by rw [add_flat]; exact hc j v hv⟩

set_option maxRecDepth 100000 in
set_option maxHeartbeats 2000000 in
theorem put_any (A : Option Addr) (n c : Nat) (l : List UInt8) (k : Nat) (A' : Option Addr) (n' c' : Nat) (body : List UInt8) (w : World) (hr : HasB w w.heap.size A n c l) (hr' : HasB w w.heap.size A' n' c' body)
    (hn : n ≤ 1000000) (hk : k < 256) (hn' : n' ≤ 65536) :
    Calls Try.prog 10 #[.slice A n c, .int .i64 k, .slice A' n' c'] w fun e w' => (∃ v, e = .returned (.tuple #[v, .int .i64 0]) ∧ OwnB w' w.heap.size 5 v (l ++ frOf k body)) ∧ Below w.heap.size w w' := by
  obtain ⟨i0, hi, hz0, hz1, hz2⟩ := info_parts info_u8
  have hlen := Lib.hid hr.len
  have hlen' := Lib.hid hr'.len
  go_enter Try.func10, Try.ntmps10
  go_wp2_with fail
  refine (size_any n' (by omega) _).mono ?_
  rintro e w' ⟨rfl, rfl⟩
  go_wp2_with (first
    | (at_make; refine wpList_make_room _ rfl _ _ 22 rfl 5 i0 (.int .u8 0) Try.underlying22 hi hz0 hz1 hz2 _ _ n (n + (n' + 9)) rfl rfl rfl (by omega) (by omega) (by omega) ?_)
    | (refine wpList_copy_splice rfl _ _ 22 22 rfl 5 Try.underlying22 info_u8_size _ _ n (n + (n' + 9)) n c rfl rfl w.heap.size 0 (madeCells #[.int .u8 0] (n + (n' + 9))).toList 5 (by rw [Array.toArray_toList]; exact heap_alloc_new w _) (l.map byt) (by simp [hlen.out]) (fun h0 => ⟨rfl, (hr.alloc (Nat.le_refl _) _).source h0⟩) (by simp [hlen.out, size_madeCells]) (byt_one l) w.heap.size w ((Below.refl _ _).alloc (Nat.le_refl _) _) (Nat.le_refl _) ?_; intro w1 hc1 hb1)
    | fail)
  have ho1 : OwnB w1 w.heap.size 5 (.slice (some ⟨w.heap.size, 0, none⟩) n (n + (n' + 9))) l := OwnB.filled (by simp [size_madeCells]) hlen.out (by omega) (by unfold maxLen; omega) (Nat.le_refl _) hc1
  clear hc1
  have hz1' := hb1.size
  have hr1' := hr'.below hb1 (Nat.le_refl _)
  clear hr hr'
  refine (head_any n' k (by omega) hk _).mono ?_
  rintro e w' ⟨rfl, rfl⟩
  have hhd := HasB.litAt w1 (frHd n' k) _ rfl 5 (0, 0) 5 rfl (by decide) w1.heap.size rfl
  go_wp2_with (at_builtin; refine wpList_app4 _ rfl _ _ 22 rfl w.heap.size 5 i0 (.int .u8 0) Try.underlying22 hi hz0 hz1 hz2 rfl _ _ rfl (ho1.alloc _) _ _ 5 5 _ rfl hhd (by have := hlen.out; omega) (by simp; omega) ?_)
  intro v2 w2 ho2 hg2
  have hb2 : Below w.heap.size w w2 := (hb1.alloc hz1' _).trans (hg2.below_ (by simp; omega) (fun k hk => (ho1.lt k hk).1))
  have hr2' : HasB w2 w.heap.size A' n' c' body := (hr1'.alloc hz1' _).below (hg2.below_ (base := w.heap.size) (by simp; omega) (fun k hk => (ho1.lt k hk).1)) (Nat.le_refl _)
  have hz2' := hb2.size
  clear hg2 hhd ho1 hr1' hb1 hz1'
  go_wp2_with (at_builtin; refine wpList_app4 _ rfl _ _ 22 rfl w.heap.size 5 i0 (.int .u8 0) Try.underlying22 hi hz0 hz1 hz2 rfl _ _ rfl ho2 _ _ n' _ _ rfl hr2' (by have := hlen.out; simp [frHd_length]; omega) hz2' ?_)
  intro v3 w3 ho3 hg3
  have hb3 : Below w.heap.size w w3 := hb2.trans (hg3.below_ hz2' (fun k hk => (ho2.lt k hk).1))
  have hz3' := hb3.size
  obtain ⟨A3, n3, c3, rfl, hv3, -⟩ := ho3.formN
  have hn3 : n3 = n + 5 + n' := by
    have h1 := hv3.len
    have h2 := hlen.out
    have h3 := hlen'.out
    simp only [List.length_append, frHd_length] at h1
    omega
  have hc3 := hv3.cap
  have hcm3 := hv3.capMax
  have hcut : HasB w3 w3.heap.size (A3.map (·.add n)) (n3 - n) (c3 - n) (frHd n' k ++ body) := by
    have h1 := cut_is hv3 (p := n) (by omega) (by omega)
    rw [List.drop_left' hlen.out] at h1
    exact h1
  clear hg3 ho2 hr2' hb2 hz2'
  have hne : ¬ c3 = n := by omega
  have h1 : (n : Int) ≤ (n3 : Int) := by omega
  have h2 : (n3 : Int) ≤ (c3 : Int) := by omega
  have h3 : (n : Int) ≤ (c3 : Int) := by omega
  have Hn3 := Lib.hid hn3
  clear hn3
  have hml := more_lt 0 (frHd n' k ++ body)
  have Hfr : Hid (l ++ (frHd n' k ++ body) ++ le4 (more 0 (frHd n' k ++ body)) = l ++ frOf k body) := Lib.hid (by rw [List.append_assoc]; unfold frOf; rw [hlen'.out])
  have Hll : Hid ((l ++ (frHd n' k ++ body)).length = n3) := Lib.hid (ho3.len_)
  go_wp2_with fail
  refine (sum_any _ _ _ _ _ _ hcut).mono ?_
  rintro e w' ⟨rfl, rfl⟩
  go_wp2_with fail
  refine (bytes_any _ hml _).mono ?_
  rintro e w' ⟨rfl, rfl⟩
  have h4 := bytes_has w3 (more 0 (frHd n' k ++ body))
  go_wp2_with (at_builtin; refine wpList_app4 _ rfl _ _ 22 rfl w.heap.size 5 i0 (.int .u8 0) Try.underlying22 hi hz0 hz1 hz2 rfl _ _ rfl (ho3.alloc _) _ _ 4 4 _ rfl h4 (by have := Hll.out; have := Hn3.out; omega) (by simp; omega) ?_)
  intro v5 w5 ho5 hg5
  have hb5 : Below w.heap.size w w5 := (hb3.alloc hz3' _).trans (hg5.below_ (by simp; omega) (fun k hk => (ho3.lt k hk).1))
  have ho6 : Hid (OwnB w5 w.heap.size 5 v5 (l ++ frOf k body)) := Lib.hid (by rw [← Hfr.out]; simpa only [List.append_assoc] using ho5)
  clear hg5 ho5 ho3 hcut h4 hv3
  go_wp2_with fail
  go_ret2
  exact ⟨⟨v5, rfl, ho6.out⟩, hb5⟩

theorem put_no (A : Option Addr) (n c : Nat) (k : Int) (A' : Option Addr) (n' c' : Nat) (w : World) (hn' : n' ≤ 9223372036854775807) (h : k < 0 ∨ 255 < k ∨ 65536 < n') :
    Calls Try.prog 10 #[.slice A n c, .int .i64 k, .slice A' n' c'] w fun e w' => e = .returned (.tuple #[.slice none 0 0, .int .i64 1]) ∧ w = w' := by
  go_enter Try.func10, Try.ntmps10
  by_cases h0 : k < 0
  · go_wp2
    go_ret2
    exact ⟨rfl, rfl⟩
  · by_cases h1 : 255 < k
    · go_wp2
      go_ret2
      exact ⟨rfl, rfl⟩
    · have h2 : 65536 < n' := by omega
      go_wp2
      go_ret2
      exact ⟨rfl, rfl⟩
end Go.Proofs.Ytpegmingmcedmaa
