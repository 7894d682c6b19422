/- Layer 8's statements: dimensions of the call's own are cut. -/
import Derived.Test.YtbiogldapodhmaaSchemaH
import Derived.Test.YtbiogldapodhmaaSchemaX
namespace Go.Proofs.Ytbiogldapodhmaa
open Go.RowKit

def c4 (d : PDim) : PDim := (d.1, d.2.take 4)
/-- The first k of them are cut. -/
def cutP (D : List PDim) (k : Nat) : List PDim := (D.take k).map c4 ++ D.drop k
theorem cutP_zero (D : List PDim) : cutP D 0 = D := by simp [cutP]
theorem cutP_len (D : List PDim) (k : Nat) : (cutP D k).length = D.length := by simp [cutP]; omega
theorem cutP_all {D : List PDim} {k : Nat} (h : D.length ≤ k) : cutP D k = D.map c4 := by
  rw [cutP, List.take_of_length_le h, List.drop_eq_nil_of_le h, List.append_nil]
theorem cutP_get {D : List PDim} {k : Nat} (h : k < D.length) : (cutP D k).getD k zeroD = D.getD k zeroD := by
  have h1 : ((D.take k).map c4).length = k := by simp; omega
  rw [cutP, List.getD_eq_getElem?_getD, List.getElem?_append_right (by omega), h1, Nat.sub_self, List.getElem?_drop, Nat.add_zero, List.getD_eq_getElem?_getD]
theorem cutP_set {D : List PDim} {k : Nat} {d : PDim} (h : k < D.length) (hd : D.getD k zeroD = d) : (cutP D k).set k (c4 d) = cutP D (k + 1) := by
  have h1 : ((D.take k).map c4).length = k := by simp; omega
  have e : D[k] = d := by rw [← hd, List.getD_eq_getElem?_getD, List.getElem?_eq_getElem h]; rfl
  rw [cutP, cutP, List.set_append_right _ _ (by omega), h1, Nat.sub_self, List.drop_eq_getElem_cons h, List.set_cons_zero, List.take_succ_eq_append_getElem h, List.map_append, e]
  simp
theorem cutP_keep {D : List PDim} {k : Nat} {x : Txt} {L : List Txt} (h : k < D.length) (hd : D.getD k zeroD = (x, L)) (hl : L.length ≤ 4) : cutP D (k + 1) = cutP D k := by
  rw [← cutP_set h hd, c4]
  have e : ((x, L).1, (x, L).2.take 4) = (cutP D k).getD k zeroD := by rw [cutP_get h, hd]; show (x, L.take 4) = (x, L); rw [List.take_of_length_le hl]
  rw [e]
  have hk : k < (cutP D k).length := by rw [cutP_len]; exact h
  rw [List.getD_eq_getElem?_getD, List.getElem?_eq_getElem hk]
  exact List.set_getElem_self hk
theorem c4_len {D : List PDim} : ∀ d ∈ D.map c4, d.2.length ≤ 4 := by
  intro d hd
  obtain ⟨x, _, rfl⟩ := List.mem_map.1 hd
  exact List.length_take_le 4 x.2
section
variable {w w' : World} {base C : Nat} {v : Value} {D : List PDim}
theorem OwnDs.take_ {A : Option Addr} {n c : Nat} (h : OwnDs w base C (.slice A n c) D) {k : Nat} (hk : k ≤ n) : OwnDs w base C (.slice A k c) (D.take k) := by
  obtain ⟨xs, h1, h2⟩ := h
  have hn : D.length = n := by
    rcases h1.2 with ⟨e, h0⟩ | ⟨g, cap, cur, e, _⟩
    · injection e with _ e2 _; omega
    · injection e with _ e2 _; exact e2.symm
  have hlen : (D.take k).length = k := by rw [List.length_take]; omega
  refine ⟨xs.take (k * 2), ?_, fun i d hi => ?_⟩
  · rw [hlen]
    refine ⟨by rw [List.length_take, h1.1]; omega, ?_⟩
    rcases h1.2 with ⟨e, h0⟩ | ⟨g, cap, cur, e, hb, hg, hnc, hcm, hcs, ht⟩
    · injection e with e1 e2 e3
      subst e1 e2 e3
      obtain rfl : k = 0 := by omega
      exact .inl ⟨rfl, rfl⟩
    · injection e with e1 e2 e3
      subst e1 e3
      refine .inr ⟨g, c, cur, rfl, hb, hg, by omega, hcm, hcs, ?_⟩
      rw [← ht, List.take_take]
      congr 1
      omega
  · have hik : i < k := by have := (List.getElem?_eq_some_iff.1 hi).1; omega
    rw [List.getElem?_take, if_pos hik] at hi
    obtain ⟨e1, A', n', c', e2, hT⟩ := h2 i d hi
    exact ⟨by rw [List.getElem?_take, if_pos (by omega)]; exact e1, A', n', c', by rw [List.getElem?_take, if_pos (by omega)]; exact e2, hT⟩
theorem OwnDs.formP (h : OwnDs w base C v D) (hl : 0 < D.length) : ∃ g c, v = .slice (some ⟨g, 0, none⟩) D.length c ∧ base ≤ g ∧ g < w.heap.size := by
  obtain ⟨xs, h1, _⟩ := h
  rcases h1.2 with ⟨_, h0⟩ | ⟨g, cap, cur, rfl, hb, hg, _⟩
  · omega
  · exact ⟨g, cap, rfl, hb, (Array.getElem?_eq_some_iff.1 hg).1⟩
theorem OwnDs.at_ {g n c : Nat} (h : OwnDs w base C (.slice (some ⟨g, 0, none⟩) n c) D) {k : Nat} (hk : k < D.length) : ∃ x A' n' c' L,
    w.cell? ⟨g, k * 2, none⟩ = some (.string ⟨x.toArray⟩) ∧ w.cell? ⟨g, k * 2 + 1, none⟩ = some (.slice A' n' c') ∧ w.frozen? ⟨g, k * 2 + 1, none⟩ = false ∧ HasT w C A' n' c' L ∧ Hid (D.getD k zeroD = (x, L)) := by
  obtain ⟨xs, h1, h2⟩ := h
  obtain ⟨e1, A', n', c', e2, hT⟩ := h2 k (D.getD k zeroD) (by rw [List.getD_eq_getElem?_getD, List.getElem?_eq_getElem hk]; rfl)
  have hcell := h1.cells (g := g) rfl
  have hn : D.length = n := by
    rcases h1.2 with ⟨e, h0⟩ | ⟨g, cap, cur, e, _⟩
    · injection e with _ e2 _; omega
    · injection e with _ e2 _; exact e2.symm
  have hfz : w.frozen? ⟨g, k * 2 + 1, none⟩ = false := by
    rw [hn] at h1
    exact h1.frozenAt (k * 2 + 1)
  refine ⟨_, A', n', c', _, ?_, ?_, hfz, hT, Lib.hid rfl⟩
  · have := hcell _ _ e1
    rwa [add_flat, show 0 + 2 * k = k * 2 from by omega] at this
  · have := hcell _ _ e2
    rwa [add_flat, show 0 + (2 * k + 1) = k * 2 + 1 from by omega] at this
/-- The levels of one of them are cut. -/
theorem OwnDs.cut_ {g n c : Nat} (h : OwnDs w base C (.slice (some ⟨g, 0, none⟩) n c) D) (hC : C ≤ g) {k : Nat} (hk : k < D.length) {x : Txt} {A' : Option Addr} {n' c' : Nat} {L L' : List Txt} (hd : D.getD k zeroD = (x, L)) (hT : HasT w C A' n' c' L') :
    OwnDs (w.setCell ⟨g, k * 2 + 1, none⟩ (.slice A' n' c')) base C (.slice (some ⟨g, 0, none⟩) n c) (D.set k (x, L')) := by
  obtain ⟨xs, h1, h2⟩ := h
  have hn : D.length = n := by
    rcases h1.2 with ⟨e, h0⟩ | ⟨g, cap, cur, e, _⟩
    · injection e with _ e2 _; omega
    · injection e with _ e2 _; exact e2.symm
  have hkeep : ∀ b o, b < C → (w.setCell ⟨g, k * 2 + 1, none⟩ (.slice A' n' c')).cell? ⟨b, o, none⟩ = w.cell? ⟨b, o, none⟩ := fun b o hb => World.cell?_of_block (Below.heap_setCell _ _ _ _ (by show b ≠ g; omega))
  rw [hn] at h1
  have hs := (World.ownsRow.stored h1 (k * 2 + 1) (.slice A' n' c')).1
  refine ⟨_, by rw [List.length_set, hn]; exact hs, fun i d hi => ?_⟩
  by_cases hik : i = k
  · subst hik
    rw [List.getElem?_set_self (by omega)] at hi
    obtain rfl := Option.some.inj hi
    obtain ⟨e1, _⟩ := h2 i (D.getD i zeroD) (by rw [List.getD_eq_getElem?_getD, List.getElem?_eq_getElem hk]; rfl)
    rw [hd] at e1
    refine ⟨by rw [List.getElem?_set_ne (by omega)]; exact e1, A', n', c', ?_, hT.keep hkeep⟩
    rw [show 2 * i + 1 = i * 2 + 1 from by omega]
    exact List.getElem?_set_self (by have := h1.1; omega)
  · rw [List.getElem?_set_ne (by omega)] at hi
    obtain ⟨e1, A2, n2, c2, e2, hT2⟩ := h2 i d hi
    exact ⟨by rw [List.getElem?_set_ne (by omega)]; exact e1, A2, n2, c2, by rw [List.getElem?_set_ne (by omega)]; exact e2, hT2.keep hkeep⟩
end
end Go.Proofs.Ytbiogldapodhmaa
