/- Layer 7: what is known of a path; Code; what is due. -/
import Derived.Test.YtccdjjpkcahgfaaDictP
import Derived.Test.YtccdjjpkcahgfaaNamesP
import Derived.BigQuiet
import Derived.Deep.QuietTactic
namespace Go.Proofs.Ytccdjjpkcahgfaa
open Go.RowKit

/-- make with room, whatever the length. -/
theorem wpList_make_roomI {P : Program} (w : World) {ops : Array Oper} {rest : List Oper} {o : Oper} {a : Act} {Q : Exit → Act → World → Prop}
    (hg : o.guard = none) (l c : Operand) (t : TypeId) (hop : o.op = Op.makeSlice t l c)
    (e : TypeId) (i : TypeInfo) (z : Value) (h1 : P.underlying t = some (.slice e)) (h2 : P.info? e = some i) (h3 : i.zero = some z) (h4 : i.size = 1) (h5 : i.bytes = 8)
    (N C : Int) (n k : Nat) (hl : a.eval l = .int .i64 N) (hc : a.eval c = .int .i64 C) (hN : N = n) (hC : C = k) (hnk : n ≤ k) (hk : k ≤ 1000000)
    (hK : wpList P ops Q rest (a.put o.dst (.slice (some ⟨w.heap.size, 0, none⟩) n k)) (w.alloc (.cells (madeCells z.cells k).toList.toArray e))) :
    wpList P ops Q (o :: rest) a w := by
  subst hN hC
  refine wpList_plain hg fun K hK' => ?_
  have hrun := run_make (P := P) w t e i z h1 h2 h3 .i64 .i64 n k (by omega) (by omega) (by rw [h5]; omega) (by omega)
  rw [h4, Nat.mul_one, Int.toNat_natCast, Int.toNat_natCast] at hrun
  unfold Oper.wp
  simp [execOp, hop, hl, hc, hrun, Result.andThen]
  exact hK' _ _ (by simpa using hK)
theorem made_row (w : World) (k : Nat) (hk : k ≤ 1000000) : OwnI (w.alloc (.cells (madeCells #[.int .i64 0] k).toList.toArray 3)) w.heap.size (.slice (some ⟨w.heap.size, 0, none⟩) 0 k) [] := by
  refine World.ownsRow_made w _ k (Nat.le_refl _) (by unfold maxLen; omega) ?_
  simp [size_madeCells]
theorem Good.look_known {n : Nat} {Q : List Pth} (h : Good n Q) {p : Pth} {k : Nat} (hk : k < p.length) (hm : p.take k = [] ∨ p.take k ∈ Q) {s : Txt} (hs : s = p.getD k []) {a : Nat} (ha : fnd Q (p.take k) = a) :
    a ≤ Q.length ∧ fnd (ents Q) (a, s) = fnd Q (p.take (k + 1)) ∧ decide ((a, s) ∈ ents Q) = decide (p.take (k + 1) ∈ Q) := by
  have hle : a ≤ Q.length := by rw [← ha]; exact fnd_le
  have e : pth Q a = p.take k := by
    rcases hm with e | e
    · rw [← ha, e, h.fnd_nil]; rfl
    · rw [← ha]; exact pth_fnd e
  have e2 : pth Q a ++ [s] = p.take (k + 1) := by
    rw [e, hs]
    exact takeT_snoc hk rfl
  refine ⟨hle, by rw [h.fnd_ents hle, e2], ?_⟩
  have := h.mem_ents (s := s) hle
  rw [e2] at this
  exact decide_eq_decide.2 this

set_option maxRecDepth 100000 in
set_option maxHeartbeats 2000000 in
/-- known. -/
theorem known_any {w : World} {base g : Nat} {pv : Value} {bm n : Nat} {Q : List Pth} (h : Dc w base g pv bm n Q) {A : Option Addr} {m c : Nat} {p : Pth} (hp : HasT w w.heap.size A m c p) (hmay : mayP p) :
    Calls Try.prog 29 #[.pointer (some ⟨g, 0, none⟩), .slice A m c] w fun e w' => ∃ v k, e = .returned v ∧ Known Q p k ∧ OwnI w' w.heap.size v (cds Q p (k + 1)) ∧ Below w.heap.size w w' := by
  obtain ⟨i0, hi, hz0, hz1, hz2⟩ := info_parts info_int
  have hgood := Lib.hid h.good
  have hm3 : m ≤ 3 := by rw [← hp.len]; exact hmay.1
  have Hpl := Lib.hid hp.len
  have Hmay := Lib.hid hmay
  have hD := Lib.hid h
  have hgl := h.block.lt
  have K : Hid (∀ y, Below w.heap.size w y → y.cell? ⟨g, 2, none⟩ = some (.map (some bm)) ∧ HasM y bm (ents Q)) := Lib.hid fun y hy => ⟨(hy.cell (p := ⟨g, 2, none⟩) hgl).trans h.c2, (h.below hy).map⟩
  have H1 := fun (W : World) (hW : W = w.alloc (.cells (madeCells #[.int .i64 0] (m + 1)).toList.toArray 3)) => Lib.hid (show OwnI W w.heap.size (.slice (some ⟨w.heap.size, 0, none⟩) 0 (m + 1)) [] ∧ Below w.heap.size w W from by subst hW; exact ⟨made_row w (m + 1) (by omega), below_a1 _ _⟩)
  clear hmay h
  go_enter Try.func29, Try.ntmps29
  go_wp2_with (first
    | (at_make; refine wpList_make_roomI _ rfl _ _ 51 rfl 3 i0 (.int .i64 0) Try.underlying51 hi hz0 hz1 hz2 0 ((m : Int) + 1) 0 (m + 1) rfl rfl rfl (by omega) (by omega) (by omega) ?_)
    | (at_builtin; refine wpList_appI rfl _ _ rfl w.heap.size _ _ rfl ((H1 _ rfl).out.1.alloc _) _ rfl 0 (cell_lit _ _ _ _ (by simp)) (by simp) (by simp; omega) ?_)
    | fail)
  intro v0 w1 hO0 hG0
  have hB1 : Below w.heap.size w w1 := ((H1 _ rfl).out.2.alloc (by simp) _).trans (hG0.below_ (by simp; omega) (fun k hk => by cases hk; exact Nat.le_refl _))
  have hO1 : OwnI w1 w.heap.size v0 (cds Q p (0 + 1)) := by rw [Nat.zero_add, cds_one hgood.out]; simpa using hO0
  clear hO0 hG0 H1
  go_wp2_with fail
  go_loopw [5, 18] (fun v i wr => ∃ k : Nat, k ≤ m ∧ i = .int .i64 k ∧ OwnI wr w.heap.size v (cds Q p (k + 1)) ∧ Below w.heap.size w wr ∧ Hid (∀ j, j < k → p.take (j + 1) ∈ Q)) (fun _ i _ => m - (intOf i).toNat)
  case atStart => exact ⟨0, Nat.zero_le _, rfl, hO1, hB1, Lib.hid (fun j hj => by omega)⟩
  case round =>
    obtain ⟨k, hk, rfl, hO, hB, hall⟩ := hrel
    by_cases hlt : k < m
    · obtain ⟨b, o, s, rfl, hb, hc, es⟩ := (hp.below hB (Nat.le_refl _)).at_ hlt
      obtain ⟨a, ha⟩ : ∃ a, Hid (fnd Q (p.take k) = a) := ⟨_, Lib.hid rfl⟩
      obtain ⟨hal, hlk1, hlk2⟩ := hgood.out.look_known (p := p) (k := k) (by have := Hpl.out; omega) (by
        cases k with
        | zero => left; rfl
        | succ k => right; exact hall.out k (by omega)) es.out ha.out
      have hQ40 := hgood.out.size
      have hsl : s.length ≤ maxLen := by
        have h1 := (Hmay.out.2 s (by rw [es.out, List.getD_eq_getElem?_getD, List.getElem?_eq_getElem (by have := Hpl.out; omega)]; exact List.getElem_mem _)).2.1
        unfold maxLen; omega
      obtain ⟨c2, hM⟩ := K.out wr hB
      have hrun0 := fun q => (hM.drewN q).look (a := a) (s := s) (by omega) hsl
      rw [hlk1, hlk2] at hrun0
      obtain ⟨g2, cap2, rfl, hg1, hg2, hcap', hcm', hcell⟩ := hO.formP (by rw [cds_len]; omega)
      have hlo := fun g e => (hO.lt g e).1
      have hck := hcell k (by rw [cds_len]; omega)
      rw [cds_get (by omega), ha.out] at hck
      have hHid := Lib.hid hO
      rw [cds_len] at hcap'
      have e0 := cds_len Q p (k + 1)
      rw [e0] at hHid
      simp only [e0]
      clear e0 hcell hO hM hlk1 hlk2 hsl
      have hsz := hB.size
      have hki : (0 : Int) ≤ (k : Int) := by omega
      have hkl : (k : Int) < (k : Int) + 1 := by omega
      have hkk : IntKind.i64.wrap ((k : Int) + 1 - 1) = (k : Int) := by rw [show (k : Int) + 1 - 1 = (k : Int) by omega]; exact IntWalk.i64_in _ (by omega)
      by_cases hyes : p.take (k + 1) ∈ Q
      · have hrun : ∀ q, (Instr.lookup 66 (.map (some bm)) (.agg #[.int .i64 (a : Int), .string ⟨s.toArray⟩]) true).run Try.prog (wr.drewN q) = .ok (.tuple #[.int .i64 (fnd Q (p.take (k + 1)) : Nat), .bool true]) (wr.drewN q) := fun q => by
          have := hrun0 q
          rwa [decide_eq_true hyes] at this
        obtain ⟨d, hd⟩ : ∃ d, Hid (fnd Q (p.take (k + 1)) = d) := ⟨_, Lib.hid rfl⟩
        rw [hd.out] at hrun
        have hall2 : Hid (∀ j, j < k + 1 → p.take (j + 1) ∈ Q) := Lib.hid fun j hj => by
          rcases Nat.lt_or_ge j k with h1 | h1
          · exact hall.out j h1
          · obtain rfl : j = k := by omega
            exact hyes
        clear hyes hrun0
        go_wp2_with fail
        go_quiet (fail)
        have hO1 := (hHid.out.drewN nq).alloc (.cells #[.int .i64 (d : Int)] 3)
        have hJ := Lib.hid (cds_succ Q p (k + 1))
        rw [hd.out] at hJ
        have hll : Hid ((cds Q p (k + 1)).length ≤ 1000000) := Lib.hid (by rw [cds_len]; omega)
        go_wp2_with (at_builtin; refine wpList_appI rfl _ _ rfl w.heap.size _ _ rfl hO1 _ rfl d (cell_lit _ _ _ _ (by simp)) hll.out (by rw [World.size_alloc]; exact Nat.le_succ_of_le hsz) ?_)
        intro v2 w2 hO2 hG2
        have hB2 := Lib.hid (((below_drewN hB nq).alloc hsz (.cells #[.int .i64 (d : Int)] 3)).trans (hG2.below_ (by rw [World.size_alloc]; exact Nat.le_succ_of_le hsz) hlo))
        rw [← hJ.out] at hO2
        have hO3 := Lib.hid hO2
        clear hO1 hO2 hG2 hlo hB hkk
        go_wp2_with fail
        go_roundw
        case rel => exact ⟨k + 1, by omega, by go_num, hO3.out, hB2.out, hall2⟩
        case measure => simp [intOf]; omega
      · have hrun : ∀ q, (Instr.lookup 66 (.map (some bm)) (.agg #[.int .i64 (a : Int), .string ⟨s.toArray⟩]) true).run Try.prog (wr.drewN q) = .ok (.tuple #[.int .i64 (fnd Q (p.take (k + 1)) : Nat), .bool false]) (wr.drewN q) := fun q => by
          have := hrun0 q
          rwa [decide_eq_false hyes] at this
        have hkn : Hid (Known Q p k) := Lib.hid ⟨by have := Hpl.out; omega, hall.out, .inr hyes⟩
        clear hyes hrun0
        go_wp2_with fail
        go_quiet (fail)
        go_wp2_with fail
        go_ret
        exact ⟨_, k, rfl, hkn.out, hHid.out.drewN _, below_drewN hB _⟩
    · have hkn : Hid (Known Q p k) := Lib.hid ⟨by have := Hpl.out; omega, hall.out, .inl (by have := Hpl.out; omega)⟩
      go_wp2_with fail
      go_ret
      exact ⟨_, k, rfl, hkn.out, hO, hB⟩

/-- What Code answers. -/
def codeA (Q : List Pth) (p : Pth) : Nat × Nat := if mayP p then if p = [] then (0, 0) else if p ∈ Q then (fnd Q p, 0) else (0, 33) else (0, 10)
set_option maxRecDepth 100000 in
set_option maxHeartbeats 1000000 in
/-- Code. -/
theorem code_any {w : World} {base g : Nat} {pv : Value} {bm n : Nat} {Q : List Pth} (h : Dc w base g pv bm n Q) {A : Option Addr} {m c : Nat} {p : Pth} (hp : HasT w w.heap.size A m c p) {x e : Nat} (hx : Hid (codeA Q p = (x, e))) :
    Calls Try.prog 9 #[.pointer (some ⟨g, 0, none⟩), .slice A m c] w fun y w' => y = .returned (.tuple #[.int .i64 (x : Int), .int .i64 (e : Int)]) ∧ Below w.heap.size w w' := by
  by_cases hm : mayP p
  · have hmb := Lib.hid (decide_eq_true hm)
    have hpl := hp.len
    have hm3 : m ≤ 3 := by rw [← hpl]; exact hm.1
    have hcap := hp.cap
    have hA : codeA Q p = if p = [] then (0, 0) else if p ∈ Q then (fnd Q p, 0) else (0, 33) := if_pos hm
    rw [hA] at hx
    have hD := Lib.hid h
    have hP := Lib.hid hp
    have Hm := Lib.hid hm
    have hmy := may_any hp
    rw [hmb.out] at hmy
    clear hA h hp hm
    go_enter Try.func9, Try.ntmps9
    go_wp2_with fail
    refine hmy.mono ?_
    rintro y w1 ⟨rfl, hB1⟩
    go_wp2_with fail
    refine (known_any (hD.out.below hB1) (hP.out.belowS hB1) Hm.out).mono ?_
    rintro y w2 ⟨v, k, rfl, hk, hO, hB2⟩
    have hB := hB1.trans (hB2.mono hB1.size)
    obtain ⟨g2, c2, rfl, hg1, hg2, hcap', hcm', hcell⟩ := hO.formP (by rw [cds_len]; omega)
    rw [cds_len] at hcap' hcell
    have e0 := cds_len Q p (k + 1)
    rw [e0]
    have Hk := Lib.hid hk
    have HO := Lib.hid hB
    have hkm : k ≤ m := by rw [← hpl]; exact hk.1
    have hg := Lib.hid hD.out.good
    clear e0 hB1 hB2 hB hO hk hmy
    by_cases hkl : k = m
    · have hck := hcell m (by omega)
      rw [cds_get (by omega), ← hpl, List.take_length] at hck
      have hck2 : w2.cell? ⟨g2, m, none⟩ = some (.int .i64 (fnd Q p : Nat)) := by rw [← hpl]; exact hck
      have Hx : Hid ((fnd Q p, 0) = (x, e)) := Lib.hid (by
        have h1 := hx.out
        by_cases h0 : p = []
        · rw [if_pos h0] at h1
          rw [← h1, h0, hg.out.fnd_nil]
        · rw [if_neg h0, if_pos ((hg.out.known_mem Hk.out).2 ⟨by omega, h0⟩)] at h1
          exact h1)
      obtain rfl := hkl
      obtain ⟨d, hd⟩ : ∃ d, Hid (fnd Q p = d) := ⟨_, Lib.hid rfl⟩
      rw [hd.out] at hck2 Hx
      have hle : ¬ (k : Int) + 1 ≤ (k : Int) := by omega
      have hki : (0 : Int) ≤ (k : Int) := by omega
      have hkl2 : (k : Int) < (k : Int) + 1 := by omega
      clear hck hcell hpl hkm
      go_wp2_with fail
      go_ret2
      exact ⟨up_two Hx.out, HO.out⟩
    · have Hx : Hid ((0, 33) = (x, e)) := Lib.hid (by
        have h1 := hx.out
        have h0 : p ≠ [] := fun e => by rw [e] at hpl; simp at hpl; omega
        rw [if_neg h0, if_neg (fun hm => by have := ((hg.out.known_mem Hk.out).1 hm).1; omega)] at h1
        exact h1)
      have hle : (k : Int) + 1 ≤ (m : Int) := by omega
      clear hcell hkl
      go_wp2_with fail
      go_ret2
      exact ⟨up_two Hx.out, HO.out⟩
  · have hmb := Lib.hid (decide_eq_false hm)
    have Hx : Hid ((0, 10) = (x, e)) := Lib.hid (by have := hx.out; unfold codeA at this; rwa [if_neg hm] at this)
    have hmy := may_any hp
    rw [hmb.out] at hmy
    clear hm h hx
    go_enter Try.func9, Try.ntmps9
    go_wp2_with fail
    refine hmy.mono ?_
    rintro y w1 ⟨rfl, hB1⟩
    go_wp2_with fail
    go_ret2
    exact ⟨up_two Hx.out, hB1⟩

set_option maxRecDepth 100000 in
set_option maxHeartbeats 1000000 in
/-- due. -/
theorem due_any {w : World} {base g : Nat} {pv : Value} {bm n : Nat} {Q : List Pth} (h : Dc w base g pv bm n Q) {d : Nat} (hd : Hid (dueP n Q = d)) :
    Calls Try.prog 41 #[.pointer (some ⟨g, 0, none⟩)] w fun y w' => y = .returned (.int .i64 (d : Int)) ∧ Below w.heap.size w w' := by
  obtain ⟨q, hq⟩ : ∃ q, Hid (pth Q Q.length = q) := ⟨_, Lib.hid rfl⟩
  have hl := line_any (w := w.drew) (show Dc w.drew base g pv bm n Q from h.drewN 1) Q.length (Nat.le_refl _) hq
  have hln := len_any h
  have hdd : (if q.length < n then Q.length else 0) = d := by have := hd.out; unfold dueP at this; rwa [hq.out] at this
  have hc0 := h.c0
  have hgl := h.block.lt
  obtain ⟨L, hL⟩ : ∃ L, Hid (Q.length = L) := ⟨_, Lib.hid rfl⟩
  rw [hL.out] at hln hl hdd
  obtain ⟨r, hr⟩ : ∃ r, Hid (q.length = r) := ⟨_, Lib.hid rfl⟩
  rw [hr.out] at hdd
  have Hdd := Lib.hid hdd
  clear hdd
  by_cases hrn : r < n
  · rw [if_pos hrn] at Hdd
    go_enter Try.func41, Try.ntmps41
    go_wp2_with fail
    refine hln.mono ?_
    rintro y w1 ⟨rfl, rfl⟩
    go_wp2_with fail
    go_region_with (go_at_call 54; refine hl.mono ?_; rintro y w2 ⟨v, rfl, hO, hB⟩; obtain ⟨A, n', c', rfl, hI, _⟩ := hO.formN; have hn' : n' = r + 1 := (by rw [← hI.len, cds_len, hr.out]); have hle : (n' : Int) ≤ (n : Int) := (by omega); have hc2 := (hB.cell (p := ⟨g, 0, none⟩) hgl).trans hc0; clear hn' hO hI)
    all_goals
      clear hle
      go_wp2_with fail
      go_ret
      exact ⟨by have e1 := Hdd.out; subst e1; rfl, (below_drewN (Below.refl _ w) 1).trans hB⟩
  · rw [if_neg hrn] at Hdd
    go_enter Try.func41, Try.ntmps41
    go_wp2_with fail
    refine hln.mono ?_
    rintro y w1 ⟨rfl, rfl⟩
    go_wp2_with fail
    go_region_with (go_at_call 54; refine hl.mono ?_; rintro y w2 ⟨v, rfl, hO, hB⟩; obtain ⟨A, n', c', rfl, hI, _⟩ := hO.formN; have hn' : n' = r + 1 := (by rw [← hI.len, cds_len, hr.out]); have hle : ¬ (n' : Int) ≤ (n : Int) := (by omega); have hc2 := (hB.cell (p := ⟨g, 0, none⟩) hgl).trans hc0; clear hn' hO hI)
    all_goals
      go_wp2_with fail
      all_goals
        first
          | (exfalso; omega)
          | (go_ret
             exact ⟨by have e1 := Hdd.out; subst e1; rfl, (below_drewN (Below.refl _ w) 1).trans hB⟩)
end Go.Proofs.Ytccdjjpkcahgfaa
