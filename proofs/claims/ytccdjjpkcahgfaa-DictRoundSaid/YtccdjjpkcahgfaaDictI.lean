/- Layer 7's statements: lives. -/
import Derived.Test.YtccdjjpkcahgfaaDictA
namespace Go.Proofs.Ytccdjjpkcahgfaa
open Go.RowKit

theorem litT (w : World) (l : List Txt) (C : Array Value) (hC : C = (l.map strV).toArray) (n : Nat) (hn : n = l.length) (hl : n ≤ 1000000) (g : Nat) (hg : g = w.heap.size) :
    HasT (w.alloc (.cells C 9)) (w.alloc (.cells C 9)).heap.size (some ⟨g, 0, none⟩) n n l := by
  subst hC hn hg
  exact ⟨rfl, Nat.le_refl _, by unfold maxLen; omega, (fun h => by cases h), fun _ => ⟨w.heap.size, 0, rfl, by simp, fun j u hu => by
    rw [Nat.zero_add, cell_new]
    simpa using hu⟩⟩
/-- A new block is none of a dictionary's. -/
theorem Dc.far_new {w : World} {base g : Nat} {pv : Value} {bm n : Nat} {Q : List Pth} (h : Dc w base g pv bm n Q) {k : Nat} (hk : w.heap.size ≤ k) : ¬ foot g pv bm k := fun hf => by have := (h.foot_base hf).2; omega
theorem TellI.chg {S : Nat → Prop} {w w' : World} {B : Nat} {v : Value} {l : List Int} (h : TellI w B v l) (hc : Chg S w w') (hS : ∀ {v' : Value} {xs : List Value} {m : Nat}, w.ownsRow B 3 1 v' m xs → ∀ k, v'.ownBlock = some k → ¬ S k) : TellI w' B v l := by
  rcases h with h | ⟨g, c, x, e, hO⟩
  · exact .inl h
  · exact .inr ⟨g, c, x, e, hc.row hO (hS hO)⟩
theorem TellI.below {w w' : World} {B : Nat} {v : Value} {l : List Int} (h : TellI w B v l) (hb : Below w.heap.size w w') : TellI w' B v l :=
  h.chg (S := fun _ => False) (Chg.of_below hb (Nat.le_refl _)) (fun _ _ _ h => h)
theorem Dc.keeps {w w' : World} {base g : Nat} {pv : Value} {bm n : Nat} {Q : List Pth} (h : Dc w base g pv bm n Q) (hc : Chg (foot g pv bm) w w') {B : Nat} {v : Value} {l : List Int} (ht : TellI w B v l) : TellI w' B v l :=
  ht.chg hc fun hr => h.foot_row hr (by decide) (by decide)

def q0 : List Pth := [[[97]], [[97], [120]]]
def q1 : List Pth := [[[97]], [[97], [120]], [[97], [121]]]
theorem ax1 : addQ 2 [] [[97], [120]] = q0 ∧ addC 2 [] [[97], [120]] = [1, 2] ∧ addE 2 [] [[97], [120]] = 0 := by decide +kernel
theorem ax2 : addQ 2 q0 [[97], [121]] = q1 ∧ addC 2 q0 [[97], [121]] = [1, 3] ∧ addE 2 q0 [[97], [121]] = 0 := by decide +kernel
theorem ax3 : codeA q1 [[97]] = (1, 0) ∧ codeA q1 [[120]] = (0, 33) ∧ upA q1 3 1 = (1, 0) ∧ q1.length = 3 := by decide +kernel
theorem new_two (w : World) : Calls Try.prog 12 #[.int .i64 2] w fun e w' => e = .returned (.pointer (some ⟨w.heap.size + 1, 0, none⟩)) ∧ Dc w' w.heap.size (w.heap.size + 1) (.slice none 0 0) w.heap.size 2 [] ∧ Below w.heap.size w w' := new_any w (n := 2) (by decide)
theorem add_p1 {w : World} {base g : Nat} {pv : Value} {bm : Nat} (h : Dc w base g pv bm 2 []) {A : Option Addr} {m c : Nat} (hp : HasT w w.heap.size A m c [[97], [120]]) (hfar : 0 < m → ∀ ad, A = some ad → ¬ foot g pv bm ad.block) :
    Calls Try.prog 21 #[.pointer (some ⟨g, 0, none⟩), .slice A m c] w fun y w' => ∃ v pv', y = .returned (.tuple #[v, .int .i64 0]) ∧ TellI w' w.heap.size v [1, 2] ∧ Dc w' base g pv' bm 2 q0 ∧ Chg (foot g pv bm) w w' := by
  refine (add_any h hp hfar).mono ?_
  rintro y w' ⟨v, pv', rfl, h1, h2, h3, _⟩
  rw [ax1.2.1] at h1
  rw [ax1.1] at h2
  exact ⟨v, pv', by rw [ax1.2.2]; rfl, h1, h2, h3⟩
theorem add_p2 {w : World} {base g : Nat} {pv : Value} {bm : Nat} (h : Dc w base g pv bm 2 q0) {A : Option Addr} {m c : Nat} (hp : HasT w w.heap.size A m c [[97], [121]]) (hfar : 0 < m → ∀ ad, A = some ad → ¬ foot g pv bm ad.block) :
    Calls Try.prog 21 #[.pointer (some ⟨g, 0, none⟩), .slice A m c] w fun y w' => ∃ v pv', y = .returned (.tuple #[v, .int .i64 0]) ∧ TellI w' w.heap.size v [1, 3] ∧ Dc w' base g pv' bm 2 q1 ∧ Chg (foot g pv bm) w w' := by
  refine (add_any h hp hfar).mono ?_
  rintro y w' ⟨v, pv', rfl, h1, h2, h3, _⟩
  rw [ax2.2.1] at h1
  rw [ax2.1] at h2
  exact ⟨v, pv', by rw [ax2.2.2]; rfl, h1, h2, h3⟩
theorem code_p1 {w : World} {base g : Nat} {pv : Value} {bm : Nat} (h : Dc w base g pv bm 2 q1) {A : Option Addr} {m c : Nat} (hp : HasT w w.heap.size A m c [[97]]) :
    Calls Try.prog 9 #[.pointer (some ⟨g, 0, none⟩), .slice A m c] w fun y w' => y = .returned (.tuple #[.int .i64 1, .int .i64 0]) ∧ Below w.heap.size w w' := code_any h hp (x := 1) (e := 0) (Lib.hid ax3.1)
theorem code_p2 {w : World} {base g : Nat} {pv : Value} {bm : Nat} (h : Dc w base g pv bm 2 q1) {A : Option Addr} {m c : Nat} (hp : HasT w w.heap.size A m c [[120]]) :
    Calls Try.prog 9 #[.pointer (some ⟨g, 0, none⟩), .slice A m c] w fun y w' => y = .returned (.tuple #[.int .i64 0, .int .i64 33]) ∧ Below w.heap.size w w' := code_any h hp (x := 0) (e := 33) (Lib.hid ax3.2.1)
theorem up_p1 {w : World} {base g : Nat} {pv : Value} {bm : Nat} (h : Dc w base g pv bm 2 q1) :
    Calls Try.prog 34 #[.pointer (some ⟨g, 0, none⟩), .int .i64 3, .int .i64 1] w fun y w' => y = .returned (.tuple #[.int .i64 1, .int .i64 0]) ∧ Below w.heap.size w w' := dup_any h 3 1 (x := 1) (e := 0) (Lib.hid ax3.2.2.1)
theorem TellI.two {w : World} {B : Nat} {v : Value} {a b : Int} (h : TellI w B v [a, b]) : ∃ g c, v = .slice (some ⟨g, 1, none⟩) 2 c ∧ 2 ≤ c ∧ c ≤ 9223372036854775807 ∧ w.cell? ⟨g, 1, none⟩ = some (.int .i64 a) ∧ w.cell? ⟨g, 2, none⟩ = some (.int .i64 b) := by
  rcases h with ⟨_, h⟩ | ⟨g, c, x, rfl, hO⟩
  · cases h
  · have h1 := hO.cell_ 1 (by simp)
    have h2 := hO.cell_ 2 (by simp)
    have hI := hO.has
    have hc := hI.cap
    have hm := hI.capMax
    exact ⟨g, c, rfl, by simp at hc; omega, by omega, h1, h2⟩

set_option maxRecDepth 100000 in
set_option maxHeartbeats 2000000 in
/-- lives: the document's examples hold. -/
theorem dictLives_any (w : World) : Calls Try.prog 13 #[] w fun e w' => e = .returned (.bool true) ∧ Below w.heap.size w w' := by
  go_enter Try.func13, Try.ntmps13
  go_wp2_with fail
  refine (new_two w).mono ?_
  rintro e w1 ⟨rfl, hD1, hB1⟩
  have hs1 := hB1.size
  have hB2 := hB1.alloc hs1 (.cells #[.string ⟨#[97]⟩, .string ⟨#[120]⟩] 9)
  have hD2 := hD1.below (below_a1 w1 (.cells #[.string ⟨#[97]⟩, .string ⟨#[120]⟩] 9))
  have hA1 := Lib.hid (add_p1 hD2 (litT w1 [[97], [120]] #[.string ⟨#[97]⟩, .string ⟨#[120]⟩] rfl 2 rfl (by decide) _ rfl) (fun _ ad h => by injection h with h; subst h; exact hD1.far_new (Nat.le_refl _)))
  clear hD1 hB1
  go_wp2_with fail
  refine hA1.out.mono ?_
  rintro e w3 ⟨va, pv3, rfl, hTa, hD3, hch3⟩
  have hB3 := hB2.trans (hch3.below hB2.size (fun k hk => (hD2.foot_base hk).1))
  clear hA1 hD2 hB2 hch3 hs1
  have hs3 := hB3.size
  have hB4 := hB3.alloc hs3 (.cells #[.string ⟨#[97]⟩, .string ⟨#[121]⟩] 9)
  have hD4 := hD3.below (below_a1 w3 (.cells #[.string ⟨#[97]⟩, .string ⟨#[121]⟩] 9))
  have hTa4 := hTa.below (below_a1 w3 (.cells #[.string ⟨#[97]⟩, .string ⟨#[121]⟩] 9))
  have hA2 := Lib.hid (add_p2 hD4 (litT w3 [[97], [121]] #[.string ⟨#[97]⟩, .string ⟨#[121]⟩] rfl 2 rfl (by decide) _ rfl) (fun _ ad h => by injection h with h; subst h; exact hD3.far_new (Nat.le_refl _)))
  obtain ⟨ga, ca, rfl, hca1, hca2, hxa, hya⟩ := hTa.two
  clear hTa hD3 hB3 hxa hya
  go_wp2_with fail
  refine hA2.out.mono ?_
  rintro e w5 ⟨vb, pv5, rfl, hTb, hD5, hch5⟩
  have hB5 := hB4.trans (hch5.below hB4.size (fun k hk => (hD4.foot_base hk).1))
  have hTa5 := hD4.keeps hch5 hTa4
  clear hA2 hD4 hB4 hch5 hTa4 hs3
  obtain ⟨gb, cb, rfl, hcb1, hcb2, hxb, hyb⟩ := hTb.two
  clear hxb hyb
  have hs5 := hB5.size
  have hb6 := below_a1 w5 (.cells #[.string ⟨#[97]⟩] 9)
  have hC1 := Lib.hid (code_p1 (hD5.below hb6) (litT w5 [[97]] #[.string ⟨#[97]⟩] rfl 1 rfl (by decide) _ rfl))
  go_wp2_with fail
  refine hC1.out.mono ?_
  rintro e w7 ⟨rfl, hb7⟩
  have hb57 := below_then hb6 hb7
  have hb8 := below_a1 w7 (.cells #[.string ⟨#[120]⟩] 9)
  have hD7 := hD5.below hb57
  have hC2 := Lib.hid (code_p2 (hD7.below hb8) (litT w7 [[120]] #[.string ⟨#[120]⟩] rfl 1 rfl (by decide) _ rfl))
  clear hC1 hb6 hb7
  go_wp2_with fail
  refine hC2.out.mono ?_
  rintro e w9 ⟨rfl, hb9⟩
  have hb79 := below_then hb8 hb9
  have hD9 := hD7.below hb79
  have hb59 := below_then hb57 hb79
  clear hC2 hb8 hb9 hD7
  go_wp2_with fail
  refine (up_p1 hD9).mono ?_
  rintro e w10 ⟨rfl, hb10⟩
  have hb510 := below_then hb59 hb10
  have hD10 := hD9.below hb10
  have hB10 := hB5.trans (hb510.mono hs5)
  obtain ⟨_, _, ea, _, _, hxa, hya⟩ := (hTa5.below hb510).two
  injection ea with ea _ _
  injection ea with ea
  injection ea with ea1 _ _
  subst ea1
  obtain ⟨_, _, eb, _, _, hxb, hyb⟩ := (hTb.below hb510).two
  injection eb with eb _ _
  injection eb with eb
  injection eb with eb1 _ _
  subst eb1
  have hB := Lib.hid hB10
  have hl := len_any hD10
  rw [ax3.2.2.2] at hl
  clear hTa5 hTb hb510 hD9 hB10 hb59 hb79 hb57 hD5 hB5 hb10 hD10
  go_wp2_with fail
  refine hl.mono ?_
  rintro e w11 ⟨rfl, rfl⟩
  go_wp2_with fail
  go_ret
  exact ⟨rfl, hB.out⟩
end Go.Proofs.Ytccdjjpkcahgfaa
