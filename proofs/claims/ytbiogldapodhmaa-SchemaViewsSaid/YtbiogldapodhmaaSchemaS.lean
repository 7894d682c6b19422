/- Layer 8, the reference: Views, Number. -/
import Derived.Test.YtbiogldapodhmaaSchemaR
namespace Go.Proofs.Ytbiogldapodhmaa
open Go.RowKit Go.Maps

/-- Any rows more, wherever they lie below. -/
theorem wpList_appLn {w : World} {ops : Array Oper} {rest : List Oper} {o : Oper} {a : Act} {Q : Exit → Act → World → Prop} (hgd : o.guard = none) (s x : Operand)
    (ho : o.op = .call { callee := .builtin .append, args := #[s, x], argTypes := #[24, 24] })
    (base C : Nat) (v : Value) (L : List (List Int)) (hs : a.eval s = v) (hown : OwnL w base C 30 v L) (A : Option Addr) (m c : Nat) (V : List (List Int)) (hx : a.eval x = .slice A m c)
    (hl : HasL w C A m c V) (hlen : L.length + m ≤ 1000000) (hbase : base ≤ w.heap.size) (hC : C ≤ base)
    (h : ∀ v' w', OwnL w' base C 30 v' (L ++ V) → Grew w v w' v' → (∀ k, v.ownBlock = some k → base ≤ k) → wpList Try.prog ops Q rest (a.put o.dst v') w') : wpList Try.prog ops Q (o :: rest) a w := by
  obtain ⟨i, hi, hz0, hz1, hz2⟩ := info_parts info_ints
  have hown0 := hown
  obtain ⟨xs, hr, hxs⟩ := hown
  have hlo := fun k e => (hr.lt k e).1
  have hml := hl.len
  rcases A with _ | ad
  · obtain rfl := hl.void rfl
    have hc := hl.cap
    obtain rfl : m = 0 := by omega
    obtain rfl : V = [] := List.eq_nil_of_length_eq_zero hml
    refine wpList_plain hgd fun K' hK => ?_
    have hrun := run_append_owned_none (P := Try.prog) (w := w) base 24 o.type 30 i 1 Try.underlying24 hi v L.length xs hr
    unfold Oper.wp execOp
    simp only [ho, resolve, invoke, builtin, Sem.run_bind, Sem.run_pure, Result.andThen_ok, List.map_toArray, List.map_cons, List.map_nil, hs, hx, hrun]
    exact hK _ _ (h v w (by rw [List.append_nil]; exact hown0) (Grew.refl w v) hlo)
  · have key : ∀ j, ∃ u : Value, j < m → (w.cell? (ad.add j) = some u ∧ u.oneCell' = true ∧ ∃ A' n' c', u = .slice A' n' c' ∧ HasI w C A' n' c' (V.getD j [])) := fun j => by
      by_cases hj : j < m
      · obtain ⟨b, o, A', n', c', e, _, hcell, hh⟩ := hl.has j hj
        injection e with e
        subst e
        exact ⟨_, fun _ => ⟨by rw [add_flat]; exact hcell, rfl, A', n', c', rfl, hh⟩⟩
      · exact ⟨undef, fun h => absurd h hj⟩
    obtain ⟨g, hg⟩ := Classical.axiomOfChoice key
    have hget : ∀ j u, ((List.range m).map g)[j]? = some u → j < m ∧ u = g j := fun j u hj => by
      have hjm : j < m := by have := (List.getElem?_eq_some_iff.1 hj).1; simpa using this
      rw [List.getElem?_map, List.getElem?_range hjm] at hj
      exact ⟨hjm, (Option.some.inj hj).symm⟩
    refine wpList_append_own_at w hgd s x 24 ho base 30 i _ 1 24 Try.underlying24 hi hz0 hz1 hz2 rfl (by decide) v L.length xs hs hr ad m c ((List.range m).map g) hx (by simp) (fun j u hj => ?_) (fun u hu => ?_) (by unfold maxLen; omega) (by omega) hbase ?_
    · obtain ⟨hjm, rfl⟩ := hget j u hj
      exact (hg j hjm).1
    · obtain ⟨j, hj⟩ := List.getElem?_of_mem hu
      obtain ⟨hjm, rfl⟩ := hget j u hj
      exact (hg j hjm).2.1
    · intro v' w' h1 h2 _ h4
      have hk : ∀ b o, b < C → w'.cell? ⟨b, o, none⟩ = w.cell? ⟨b, o, none⟩ := fun b o hb => World.cell?_of_block (h2.block b (by omega) (fun e => by have := hlo _ e.symm; omega))
      refine h v' w' ⟨_, by rw [List.length_append, hml]; exact h1, fun j l hj => ?_⟩ ⟨h2, fun k hk => ?_⟩ hlo
      · have hxl : xs.length = L.length := by rw [hr.1, Nat.mul_one]
        by_cases hlt : j < L.length
        · rw [List.getElem?_append_left hlt] at hj
          obtain ⟨A', n', c', e, hh⟩ := hxs j l hj
          exact ⟨A', n', c', by rw [List.getElem?_append_left (by omega)]; exact e, hh.keep hk⟩
        · rw [List.getElem?_append_right (by omega)] at hj
          have hjm : j - L.length < m := by have := (List.getElem?_eq_some_iff.1 hj).1; omega
          obtain ⟨_, _, A', n', c', e, hh⟩ := hg _ hjm
          rw [List.getD_eq_getElem?_getD, hj] at hh
          refine ⟨A', n', c', ?_, hh.keep hk⟩
          rw [List.getElem?_append_right (by omega), hxl, List.getElem?_map, List.getElem?_range hjm, ← e]
          rfl
      · rcases h4 with h4 | h4
        · exact .inl (h4 ▸ hk)
        · rw [h4] at hk
          injection hk with hk
          exact .inr (Nat.le_of_eq hk)
/-- A fresh one of one row that lies below. -/
theorem OwnL.lit {w : World} {C : Nat} {A : Option Addr} {n c : Nat} {l : List Int} (h : HasI w C A n c l) (g : Nat) (hg : g = w.heap.size) {base : Nat} (hb : base ≤ g) (hC : C ≤ w.heap.size) : OwnL (w.alloc (.cells #[.slice A n c] 30)) base C 30 (.slice (some ⟨g, 0, none⟩) 1 1) [l] := by
  subst hg
  refine ⟨[.slice A n c], ⟨rfl, .inr ⟨w.heap.size, 1, #[.slice A n c], rfl, hb, heap_alloc_new w _, Nat.le_refl _, by decide, rfl, rfl⟩⟩, fun i q' hi => ?_⟩
  match i, hi with
  | 0, hi => simp at hi; subst hi; exact ⟨A, n, c, rfl, h.alloc hC _⟩
  | (i + 1), hi => simp at hi
/-- What a call tells that tells rows of ints. -/
def TellL (w : World) (Q : List (List Int)) (e : Ending) (w' : World) : Prop := (∃ A c, e = .returned (.slice A Q.length c) ∧ HasL w' w'.heap.size A Q.length c Q) ∧ Below w.heap.size w w'
set_option maxRecDepth 100000 in
set_option maxHeartbeats 1000000 in
/-- The reference's Views. -/
theorem refViews_any {A1 A2 A3 : Option Addr} {n1 c1 n2 c2 n3 c3 : Nat} {D : List PDim} {M : List Txt} {V : List (List Int)} {w : World} (h : HasS w w.heap.size A1 n1 c1 A2 n2 c2 A3 n3 c3 D M V) (hn1 : n1 ≤ 1000) (hn3 : n3 ≤ 1000) :
    Calls Try.prog 19 #[schV A1 n1 c1 A2 n2 c2 A3 n3 c3] w (TellL w (viewsP D V)) := by
  have hb0 := below_a1 w (.cells #[.slice A1 n1 c1, .slice A2 n2 c2, .slice A3 n3 c3] 26)
  have h1 := h.belowS hb0
  have hS := Block.new w 26 #[.slice A1 n1 c1, .slice A2 n2 c2, .slice A3 n3 c3]
  clear h
  go_enter Try.func19, Try.ntmps19
  go_wp2_with fail
  generalize w.alloc (.cells #[.slice A1 n1 c1, .slice A2 n2 c2, .slice A3 n3 c3] 26) = w1 at hb0 h1 hS ⊢
  refine (refBase_any h1.d hn1).mono ?_
  rintro e w2 ⟨⟨v, rfl, hO⟩, hb2⟩
  obtain ⟨Ab, nb, cb, rfl, hI, _⟩ := hO.formN
  have hO3 := OwnL.lit hI w2.heap.size rfl (Nat.le_refl _) (Nat.le_refl _)
  have hb3 := below_then hb2 (below_a1 w2 (.cells #[.slice Ab nb cb] 30))
  have hS3 := hS.below hb3 hS.lt
  have s2 : (w2.alloc (.cells #[.slice Ab nb cb] 30)).cell? ⟨w.heap.size, 2, none⟩ = some (.slice A3 n3 c3) := hS3.cell 2
  have hV3 := (h1.v.below hb3 (Nat.le_refl _)).more hb2.size
  have hl : ([baseP D] : List (List Int)).length + n3 ≤ 1000000 := by simp; omega
  have hlo := fun g e => (hO3.ltB g e).1
  have hz : w2.heap.size ≤ (w2.alloc (.cells #[.slice Ab nb cb] 30)).heap.size := by simp
  have Hl := Lib.hid hl
  have hz2 : w1.heap.size ≤ w2.heap.size := hb2.size
  clear hO hI hb2 hl hS3
  go_wp2_with (at_builtin; refine wpList_appLn rfl _ _ rfl w2.heap.size w2.heap.size _ [baseP D] rfl hO3 A3 n3 c3 V rfl hV3 Hl.out hz (Nat.le_refl _) ?_)
  intro v' w5 hO5 hG5 _
  have hB5 := Lib.hid (below_then hb0 (hb3.trans ((hG5.below_ hz hlo).mono hz2)))
  obtain ⟨A5, c5, rfl, hL⟩ := OwnL.read hO5 (Nat.le_trans hz hG5.1.size)
  have HL := Lib.hid hL
  clear hO3 hO5 hG5 hL hlo hb3
  go_wp2_with fail
  go_ret
  exact ⟨⟨A5, c5, rfl, HL.out⟩, hB5.out⟩
set_option maxRecDepth 100000 in
set_option maxHeartbeats 1000000 in
/-- The reference's Number. -/
theorem refNumber_any {A1 A2 A3 A : Option Addr} {n1 c1 n2 c2 n3 c3 n c : Nat} {D : List PDim} {M : List Txt} {V : List (List Int)} {v : List Int} {w : World} (h : HasS w w.heap.size A1 n1 c1 A2 n2 c2 A3 n3 c3 D M V) (hv : HasI w w.heap.size A n c v) (hn1 : n1 ≤ 1000) (hn3 : n3 ≤ 1000) {a b : Int} (hab : Hid (numberP D M V v = (a, b))) :
    Calls Try.prog 23 #[schV A1 n1 c1 A2 n2 c2 A3 n3 c3, .slice A n c] w fun e w' => e = .returned (.tuple #[.int .i64 a, .int .i64 b]) ∧ Below w.heap.size w w' := by
  have HN3 := Lib.hid h.v.len
  have hb0 := below_a1 w (.cells #[.slice A1 n1 c1, .slice A2 n2 c2, .slice A3 n3 c3] 26)
  have h1 := h.belowS hb0
  have hv1 := hv.belowS hb0
  have hS := Block.new w 26 #[.slice A1 n1 c1, .slice A2 n2 c2, .slice A3 n3 c3]
  have HM := Lib.hid (refMay8_any h1 hn1 hn3)
  clear h hv
  by_cases hd : mayS D M V
  · rw [decide_eq_true hd] at HM
    have HX := Lib.hid hd
    clear hd
    go_enter Try.func23, Try.ntmps23
    go_wp2_with fail
    generalize w.alloc (.cells #[.slice A1 n1 c1, .slice A2 n2 c2, .slice A3 n3 c3] 26) = w1 at hb0 h1 hS HM hv1 ⊢
    refine HM.out.mono ?_
    rintro e w2 ⟨rfl, hb2⟩
    have h2 := h1.belowS hb2
    have hv2 := hv1.belowS hb2
    have hS2 := hS.below hb2 hS.lt
    have hb3 := below_then hb0 hb2
    have s0 : w2.cell? ⟨w.heap.size, 0, none⟩ = some (.slice A1 n1 c1) := hS2.cell 0
    have s1 : w2.cell? ⟨w.heap.size, 1, none⟩ = some (.slice A2 n2 c2) := hS2.cell 1
    have s2 : w2.cell? ⟨w.heap.size, 2, none⟩ = some (.slice A3 n3 c3) := hS2.cell 2
    clear HM hb2 hb0 h1 hS hv1
    go_wp2_with fail
    refine (refViews_any h2 hn1 hn3).mono ?_
    rintro e w3 ⟨⟨Au, cu, rfl, hL⟩, hb4⟩
    obtain ⟨N, hN, hN2⟩ : ∃ N, Hid ((viewsP D V).length = N) ∧ N ≤ 1001 := ⟨_, Lib.hid rfl, by have := HN3.out; simp [viewsP]; omega⟩
    rw [hN.out] at hL ⊢
    have hb5 := below_then hb3 hb4
    have hv3 := hv2.belowS hb4
    clear s0 s1 s2 hb4 hb3 h2 hS2 hv2
    go_wp2_with fail
    go_loopw [8] (fun i wr => ∃ k q : Nat, k ≤ N ∧ i = .int .i64 k ∧ wr = w3.drewN q ∧ Hid (∀ j, j < k → (viewsP D V).getD j [] ≠ v)) (fun i _ => N - (intOf i).toNat)
    case atStart => exact ⟨0, 0, Nat.zero_le _, rfl, rfl, Lib.hid fun j hj => absurd hj (by omega)⟩
    case round =>
      obtain ⟨k, q, hk, rfl, rfl, ht⟩ := hrel
      by_cases hlt : k < N
      · obtain ⟨b', o, A', n', c', l, rfl, hb, g0, hl, he⟩ := hL.at_ hlt
        have i0 : (0 : Int) ≤ (k : Int) := by omega
        have i1 : (k : Int) < (N : Int) := by omega
        have HE := Lib.hid (sameI_any (w := w3.drewN q) (hl.drewN q) (hv3.drewN q))
        by_cases hlv : l = v
        · have H := Lib.hid (num_at HX.out hab.out (by rw [hN.out]; exact hlt) he.out hlv ht.out)
          rw [decide_eq_true hlv] at HE
          clear hlv
          go_wp2_with fail
          refine HE.out.mono ?_
          rintro e w4 ⟨rfl, p, rfl⟩
          have HB := Lib.hid (below_drewN hb5 (q + p))
          clear HE hl
          go_wp2_with fail
          go_ret2
          exact ⟨pair_of H.out.1 H.out.2.symm, HB.out⟩
        · have H := Lib.hid (num_step ht.out he.out hlv)
          rw [decide_eq_false hlv] at HE
          clear hlv
          go_wp2_with fail
          refine HE.out.mono ?_
          rintro e w4 ⟨rfl, p, rfl⟩
          clear HE hl
          go_wp2_with fail
          go_roundw
          case rel => exact ⟨k + 1, q + p, by omega, by go_num, rfl, H⟩
          case measure => simp [intOf]; omega
      · have H := Lib.hid (num_no HX.out hab.out (k := k) (by rw [hN.out]; omega) ht.out)
        have HB := Lib.hid (below_drewN hb5 q)
        go_wp2_with fail
        go_ret2
        exact ⟨pair_of H.out.1.symm H.out.2.symm, HB.out⟩
  · rw [decide_eq_false hd] at HM
    have H := Lib.hid (num_err hd hab.out)
    clear hd
    go_enter Try.func23, Try.ntmps23
    go_wp2_with fail
    refine HM.out.mono ?_
    rintro e w2 ⟨rfl, hb2⟩
    have hb3 := below_then hb0 hb2
    clear HM
    go_wp2_with fail
    go_ret2
    exact ⟨pair_of H.out.1.symm H.out.2.symm, hb3⟩
end Go.Proofs.Ytbiogldapodhmaa
