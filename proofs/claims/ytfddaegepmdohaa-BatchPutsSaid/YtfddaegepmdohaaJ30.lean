/- BatchC, BatchL, BatchY -/
import Derived.Test.YtfddaegepmdohaaJ5
import Derived.Test.YtfddaegepmdohaaJ27
import Derived.Deep.RegionHeld3
namespace Go.Proofs.Ytfddaegepmdohaa
set_option maxRecDepth 100000
open Go.RowKit

theorem info_factS : (Try.prog.info? 35).map (·.size) = some 2 := by kernel_rfl
theorem two_is (A1 : Option Addr) (n1 c1 : Nat) (A2 : Option Addr) (n2 c2 : Nat) : ∀ u ∈ [Value.slice A1 n1 c1, Value.slice A2 n2 c2], u.oneCell' = true := by
  intro u hu
  simp at hu
  rcases hu with rfl | rfl <;> rfl
theorem OwnR.el0 {α : Type} {E : ElT α} {T : TypeId} {sz B : Nat} {w : World} {v : Value} {L : List α} (h : OwnR E T sz w B (fun k => B ≤ k) v L) : elOwn E T sz w (fun k => B ≤ k) [v] L :=
  ⟨v, rfl, h.low (Nat.zero_le _), fun k hk => (h.lt k hk).1⟩
/-- None of its lists is long. -/
def SmallF (f : Fct) : Prop := f.1.length ≤ 1000 ∧ (∀ p ∈ f.1, p.length ≤ 1000) ∧ f.2.length ≤ 1000
set_option maxRecDepth 100000 in
theorem valuesC_any {S : Nat → Prop} {A1 A2 : Option Addr} {n1 c1 n2 c2 : Nat} {q : List Int} {w : World} (h : Row elInt 1 w S A2 n2 c2 q) (hn : q.length ≤ 1000) :
    Calls Try.prog 20 #[.agg #[.slice A1 n1 c1, .slice A2 n2 c2]] w (Told elInt 3 1 w q) := by
  have hbx := below_a1 w (.cells #[.slice A1 n1 c1, .slice A2 n2 c2] 35)
  have hbl := Block.new w 35 #[.slice A1 n1 c1, .slice A2 n2 c2]
  have h1 := h.mv elInt_ok (Mv.alloc w (.cells #[.slice A1 n1 c1, .slice A2 n2 c2] 35) _)
  have HC := Lib.hid (ownI_any h1 (by have := h.len; omega))
  have hsz : w.heap.size ≤ (w.alloc (.cells #[.slice A1 n1 c1, .slice A2 n2 c2] 35)).heap.size := by simp
  clear h h1
  go_enter Try.func20, Try.ntmps20
  go_wp2_with fail
  generalize w.alloc (.cells #[.slice A1 n1 c1, .slice A2 n2 c2] 35) = W at hbl HC hbx hsz ⊢
  have k1 : W.cell? ⟨w.heap.size, 1, none⟩ = some (.slice A2 n2 c2) := hbl.cell 1
  clear hbl
  go_wp2_with fail
  refine HC.out.mono ?_
  rintro e w2 ⟨v, rfl, hO, hb⟩
  have hF := Lib.hid (show OwnR elInt 3 1 w2 w.heap.size (fun k => w.heap.size ≤ k) v q ∧ Below w.heap.size w w2 from ⟨(hO.to elInt_ok fun b hb _ => Nat.le_trans hsz hb).low hsz, hbx.trans (hb.mono hsz)⟩)
  clear hO hb HC
  go_wp2_with fail
  go_ret
  exact ⟨v, rfl, hF.out.1, hF.out.2⟩

set_option maxRecDepth 100000 in
set_option maxHeartbeats 2000000 in
theorem eachV_any {S : Nat → Prop} {A : Option Addr} {n c : Nat} {L : List Fct} {w : World} (h : HasF w S A n c L) (hn : n ≤ 1000) (hL : ∀ f ∈ L, SmallF f) :
    Calls Try.prog 19 #[.slice A n c, .func (.func 20) #[] #[]] w (Told (elOwn elInt 3 1) 32 1 w (L.map Prod.snd)) := by
  have HL := Lib.hid h.len
  have HP := Lib.hid hL
  have hnm := h.lenMax
  have HS : ∀ b, (S b ∧ b < w.heap.size) → b < w.heap.size := fun b hb => hb.2
  have h1 : HasF w (fun b => S b ∧ b < w.heap.size) A n c L := h.mv elFct_ok (Mv.to w fun b hb hl => ⟨hb, hl⟩)
  clear h hL
  go_enter Try.func19, Try.ntmps19
  go_wp2_with fail
  go_loopw [5, 10] (fun v i wr => ∃ k : Nat, k ≤ n ∧ i = .int .i64 k ∧ OwnR (elOwn elInt 3 1) 32 1 wr w.heap.size (fun b => w.heap.size ≤ b) v ((L.map Prod.snd).take k) ∧ Below w.heap.size w wr) (fun _ i _ => n - (intOf i).toNat)
  case atStart => exact ⟨0, Nat.zero_le _, rfl, OwnR.nil_ w _ _, Below.refl _ _⟩
  case round =>
    obtain ⟨k, hk, rfl, hO, hB⟩ := hrel
    by_cases hlt : k < n
    · obtain ⟨b, o, A1, n1, c1, A2, n2, c2, p, q, rfl, _, _, g0, g1, hp, hq, he⟩ := (h1.mv elFct_ok (Mv.below hB HS)).at2 hlt
      have i0 : (0 : Int) ≤ (k : Int) := by omega
      have i1 : (k : Int) < (n : Int) := by omega
      have hsm := HP.out (p, q) (List.mem_of_getElem? he.out)
      have hbx := below_a1 wr (.cells #[.slice A1 n1 c1, .slice A2 n2 c2] 35)
      have hbl := Block.new wr 35 #[.slice A1 n1 c1, .slice A2 n2 c2]
      have hp1 := hp.mv elPath_ok (Mv.alloc wr (.cells #[.slice A1 n1 c1, .slice A2 n2 c2] 35) _)
      have hq1 := hq.mv elInt_ok (Mv.alloc wr (.cells #[.slice A1 n1 c1, .slice A2 n2 c2] 35) _)
      have HC := Lib.hid (valuesC_any (A1 := A1) (n1 := n1) (c1 := c1) hq1 hsm.2.2)
      have HT := Lib.hid (take_snoc (show (L.map Prod.snd)[k]? = some q by rw [List.getElem?_map, he.out]; rfl))
      have hO1 := hO.below elValsO_ok hbx
      have hB1 := hB.trans (hbx.mono hB.size)
      have hlo := fun g e => hO1.lt g e
      have hlw := fun g e => hO.lt g e
      clear hp hq hsm hp1 hq1 hO hB hbx
      go_wp2_with fail
      generalize wr.alloc (.cells #[.slice A1 n1 c1, .slice A2 n2 c2] 35) = W at hO1 hB1 hbl HC hlo ⊢
      have k0 : W.cell? ⟨wr.heap.size, 0, none⟩ = some (.slice A1 n1 c1) := hbl.cell 0
      have k1 : W.cell? ⟨wr.heap.size, 1, none⟩ = some (.slice A2 n2 c2) := hbl.cell 1
      clear g0 g1 hbl
      go_wp2_with fail
      refine HC.out.mono ?_
      rintro e w5 ⟨y, rfl, hy, hb5⟩
      have hz1 := hB1.size
      have hy1 := OwnR.el elInt_ok hy (fun g e => (hlo g e).2) hz1
      have hO5 := hO1.below elValsO_ok hb5
      have hB5 := hB1.trans (hb5.mono hz1)
      have hz5 := hB5.size
      obtain ⟨Ay, cy, rfl⟩ := hy.shape
      have hO6 := hO5.alloc elValsO_ok (.cells #[.slice Ay q.length cy] 32)
      have hy6 := elValsO_ok _ _ _ _ _ _ (Mv.alloc w5 (.cells #[.slice Ay q.length cy] 32) _) hy1
      have hone := ownOne_is hy1
      have hlb : Hid (((L.map Prod.snd).take k).length ≤ 1000000) := Lib.hid (Nat.le_trans (List.length_take_le k _) (by omega))
      have hB6 := hB5.alloc hz5 (.cells #[.slice Ay q.length cy] 32)
      have hbs : w.heap.size ≤ (w5.alloc (.cells #[.slice Ay q.length cy] 32)).heap.size := by rw [World.size_alloc]; omega
      clear hy hy1 hO5 hB5 hb5
      clear hO1 hB1 HC k0 k1
      go_wp2_with (at_builtin; refine wpList_appX elValsO_ok rfl _ _ rfl info_rowI Try.underlying24 rfl (by decide) w.heap.size _ _ _ rfl hO6 _ rfl [.slice Ay q.length cy] rfl q (cell_litX w5 _ _) hone hy6 hlb.out hbs ?_)
      intro v' w2 hO2 hG2
      have hF := Lib.hid (show OwnR (elOwn elInt 3 1) 32 1 w2 w.heap.size (fun b => w.heap.size ≤ b) v' ((L.map Prod.snd).take (k + 1)) ∧ Below w.heap.size w w2 from ⟨HT.out ▸ hO2, hB6.trans (hG2.below_ hbs (fun g e => (hlo g e).1))⟩)
      clear hO2 hG2 hO6 hy6 hB6 hlo hlw hone
      go_wp2_with fail
      go_roundw
      case rel => exact ⟨k + 1, by omega, by go_num, hF.out.1, hF.out.2⟩
      case measure => simp [intOf]; omega
    · have hF := Lib.hid (show OwnR (elOwn elInt 3 1) 32 1 wr w.heap.size (fun b => w.heap.size ≤ b) u5 (L.map Prod.snd) ∧ Below w.heap.size w wr from ⟨by rw [List.take_of_length_le (by have := HL.out; simp; omega)] at hO; exact hO, hB⟩)
      clear hO hB
      go_wp2_with fail
      go_ret
      exact ⟨u5, rfl, hF.out.1, hF.out.2⟩

set_option maxRecDepth 100000 in
/-- Values. -/
theorem values_any {S : Nat → Prop} {A : Option Addr} {n c : Nat} {L : List Fct} {w : World} (h : HasF w S A n c L) (hn : n ≤ 1000) (hL : ∀ f ∈ L, SmallF f) :
    Calls Try.prog 9 #[.slice A n c] w (Told (elOwn elInt 3 1) 32 1 w (L.map Prod.snd)) := by
  have HC := Lib.hid (eachV_any h hn hL)
  clear h hn hL
  go_enter Try.func9, Try.ntmps9
  go_wp2_with fail
  refine HC.out.mono ?_
  rintro e w2 ⟨v, rfl, hO, hb⟩
  have hF := Lib.hid (And.intro hO hb)
  clear hO hb HC
  go_wp2_with fail
  go_ret
  exact ⟨v, rfl, hF.out.1, hF.out.2⟩

/-- What Copy's closure tells. -/
def TellF (w : World) (f : Fct) (e : Ending) (w' : World) : Prop :=
  ∃ A1 n1 c1 A2 n2 c2, e = .returned (.agg #[.slice A1 n1 c1, .slice A2 n2 c2]) ∧ elFctO w' (fun k => w.heap.size ≤ k) [.slice A1 n1 c1, .slice A2 n2 c2] f ∧ Below w.heap.size w w'
set_option maxRecDepth 100000 in
set_option maxHeartbeats 2000000 in
theorem copyC_any {S : Nat → Prop} {A1 A2 : Option Addr} {n1 c1 n2 c2 : Nat} {p : List (List Txt)} {q : List Int} {w : World} (hp : Row (elRow elText 1) 1 w S A1 n1 c1 p) (hq : Row elInt 1 w S A2 n2 c2 q) (hs : SmallF (p, q)) :
    Calls Try.prog 36 #[.agg #[.slice A1 n1 c1, .slice A2 n2 c2]] w (TellF w (p, q)) := by
  have HS := Lib.hid hs
  have hb0 := (below_a1 w (.cells #[.slice A1 n1 c1, .slice A2 n2 c2] 35))
  have hb1 := below_then hb0 (below_a1 (w.alloc (.cells #[.slice A1 n1 c1, .slice A2 n2 c2] 35)) (.cells #[.slice none 0 0, .slice none 0 0] 35))
  have hbl := (Block.new w 35 #[.slice A1 n1 c1, .slice A2 n2 c2]).alloc (.cells #[.slice none 0 0, .slice none 0 0] 35)
  have hbr := Block.new (w.alloc (.cells #[.slice A1 n1 c1, .slice A2 n2 c2] 35)) 35 #[.slice none 0 0, .slice none 0 0]
  have hp1 := Lib.hid (hp.mv elPath_ok (Mv.belowS hb1 S))
  have hq1 := Lib.hid (hq.mv elInt_ok (Mv.belowS hb1 S))
  have hsz : (w.alloc (.cells #[.slice A1 n1 c1, .slice A2 n2 c2] 35)).heap.size = w.heap.size + 1 := by simp
  clear hp hq hs hb0
  go_enter Try.func36, Try.ntmps36
  go_wp2_with fail
  rw [hsz] at hbr
  generalize (w.alloc (.cells #[.slice A1 n1 c1, .slice A2 n2 c2] 35)).alloc (.cells #[.slice none 0 0, .slice none 0 0] 35) = W at hb1 hbl hbr hp1 hq1 ⊢
  clear hsz
  have K : Hid (∀ y, Below W.heap.size W y → y.cell? ⟨w.heap.size, 0, none⟩ = some (.slice A1 n1 c1) ∧ y.cell? ⟨w.heap.size, 1, none⟩ = some (.slice A2 n2 c2)) := Lib.hid fun y hy => ⟨(hbl.below hy hbl.lt).cell 0, (hbl.below hy hbl.lt).cell 1⟩
  have k0 : W.cell? ⟨w.heap.size, 0, none⟩ = some (.slice A1 n1 c1) := hbl.cell 0
  have k1 : W.cell? ⟨w.heap.size, 1, none⟩ = some (.slice A2 n2 c2) := hbl.cell 1
  have HbR := Lib.hid hbr
  have HR := Lib.hid (fun y (hy : Below W.heap.size W y) => hbr.below hy hbr.lt)
  have HW := Lib.hid hb1.size
  have hpd : Row (elRow elText 1) 1 W.drew S A1 n1 c1 p := hp1.out.mv elPath_ok (Mv.drewN W 1 S)
  have HC := Lib.hid (eachP_any hpd (by have := hp1.out.len; have : p.length ≤ 1000 := HS.out.1; omega) HS.out.2.1)
  clear hbl hbr hpd
  go_region_held3 (fun w' => w'.cell? ⟨w.heap.size, 0, none⟩ = some (.slice A1 n1 c1) ∧ w'.cell? ⟨w.heap.size, 1, none⟩ = some (.slice A2 n2 c2))
    (first
      | go_keep
      | exact K.out _ hBB2
      | exact K.out _ hBB1)
    (first
      | (go_at_call 37; refine HC.out.mono ?_; rintro e w1 ⟨v1, rfl, hO1, hB1⟩; obtain ⟨B1, d1, rfl⟩ := hO1.shape; have hBB1 : Below W.heap.size W w1 := ((below_drewN (Below.refl _ W) 1).trans hB1))
      | (go_at_call 21; refine (ownI_any (hq1.out.mv elInt_ok (Mv.belowS hBB1 S)) (by have := hq1.out.len; have : q.length ≤ 1000 := HS.out.2.2; omega)).mono ?_; rintro e w2 ⟨v2, rfl, hO2, hB2⟩; obtain ⟨B2, d2, rfl⟩ := hO2.shape; have hBB2 := hBB1.trans (hB2.mono hBB1.size); have hr2 := HR.out _ hBB2; have d0 : w2.cell? ⟨w.heap.size + 1, 0, none⟩ = some (.slice none 0 0) := hr2.cell 0; have d1' : w2.cell? ⟨w.heap.size + 1, 1, none⟩ = some (.slice none 0 0) := hr2.cell 1; have f0 := hr2.free 0; have f1 := hr2.free 1))
  have hr2' := HR.out _ hBB2
  have hlt := HbR.out.lt
  have hns : ¬ W.heap.size ≤ w.heap.size + 1 := by omega
  have e1 : elOwn (elOwn elText 9 1) 23 1 w1 (fun k => W.heap.size ≤ k) [.slice B1 p.length d1] p := OwnR.el0 hO1
  have e2 : elOwn elInt 3 1 w2 (fun k => W.heap.size ≤ k) [.slice B2 q.length d2] q := elOwn_ok elInt_ok _ _ _ _ _ _ (Mv.to w2 fun b hb _ => Nat.le_trans hBB1.size hb) (OwnR.el0 hO2)
  have m2 := Mv.trans (Mv.set w2 (w.heap.size + 1) 0 (.slice B1 p.length d1) hns) (Mv.set (w2.setCell ⟨w.heap.size + 1, 0, none⟩ (.slice B1 p.length d1)) (w.heap.size + 1) 1 (.slice B2 q.length d2) hns)
  have m3 := Mv.trans m2 (Mv.to _ (S' := fun k => w.heap.size ≤ k) fun b hb _ => Nat.le_trans HW.out hb)
  have hF := Lib.hid (show elFctO ((w2.setCell ⟨w.heap.size + 1, 0, none⟩ (.slice B1 p.length d1)).setCell ⟨w.heap.size + 1, 1, none⟩ (.slice B2 q.length d2)) (fun k => w.heap.size ≤ k) [.slice B1 p.length d1, .slice B2 q.length d2] (p, q) from ⟨elPathsO_ok _ _ _ _ _ _ (Mv.trans (Mv.belowS hB2 _) m3) e1, elValsO_ok _ _ _ _ _ _ m3 e2⟩)
  have hG := Lib.hid (((hb1.trans (hBB2.mono hb1.size)).setCell (p := ⟨w.heap.size + 1, 0, none⟩) (Nat.le_succ _) (.slice B1 p.length d1)).setCell (p := ⟨w.heap.size + 1, 1, none⟩) (Nat.le_succ _) (.slice B2 q.length d2))
  have hR := Lib.hid ((hr2'.set_ 0 (.slice B1 p.length d1)).set_ 1 (.slice B2 q.length d2))
  clear e1 e2 m2 m3 hO1 hO2 hB1 hB2 hBB1 hBB2 hr2 hr2' d0 d1' f0 f1 K HR HbR HC hb1 k0 k1
  go_wp2_with fail
  refine bodyPost_ret (results_block1 rfl _ _ (w.heap.size + 1) _ _ rfl hR.out Try.underlying35 rfl info_factS) rfl ?_
  exact ⟨_, _, _, _, _, _, rfl, hF.out, hG.out⟩

set_option maxRecDepth 100000 in
set_option maxHeartbeats 2000000 in
theorem eachF_any {S : Nat → Prop} {A : Option Addr} {n c : Nat} {L : List Fct} {w : World} (h : HasF w S A n c L) (hn : n ≤ 1000) (hL : ∀ f ∈ L, SmallF f) :
    Calls Try.prog 35 #[.slice A n c, .func (.func 36) #[] #[]] w (Told elFctO 35 2 w L) := by
  have HL := Lib.hid h.len
  have HP := Lib.hid hL
  have hnm := h.lenMax
  have HS : ∀ b, (S b ∧ b < w.heap.size) → b < w.heap.size := fun b hb => hb.2
  have h1 : HasF w (fun b => S b ∧ b < w.heap.size) A n c L := h.mv elFct_ok (Mv.to w fun b hb hl => ⟨hb, hl⟩)
  clear h hL
  go_enter Try.func35, Try.ntmps35
  go_wp2_with fail
  go_loopw [5, 10] (fun v i wr => ∃ k : Nat, k ≤ n ∧ i = .int .i64 k ∧ OwnR elFctO 35 2 wr w.heap.size (fun b => w.heap.size ≤ b) v (L.take k) ∧ Below w.heap.size w wr) (fun _ i _ => n - (intOf i).toNat)
  case atStart => exact ⟨0, Nat.zero_le _, rfl, OwnR.nil_ w _ _, Below.refl _ _⟩
  case round =>
    obtain ⟨k, hk, rfl, hO, hB⟩ := hrel
    by_cases hlt : k < n
    · obtain ⟨b, o, A1, n1, c1, A2, n2, c2, p, q, rfl, _, _, g0, g1, hp, hq, he⟩ := (h1.mv elFct_ok (Mv.below hB HS)).at2 hlt
      have i0 : (0 : Int) ≤ (k : Int) := by omega
      have i1 : (k : Int) < (n : Int) := by omega
      have hsm := HP.out (p, q) (List.mem_of_getElem? he.out)
      have hbx := below_a1 wr (.cells #[.slice A1 n1 c1, .slice A2 n2 c2] 35)
      have hbl := Block.new wr 35 #[.slice A1 n1 c1, .slice A2 n2 c2]
      have hp1 := hp.mv elPath_ok (Mv.alloc wr (.cells #[.slice A1 n1 c1, .slice A2 n2 c2] 35) _)
      have hq1 := hq.mv elInt_ok (Mv.alloc wr (.cells #[.slice A1 n1 c1, .slice A2 n2 c2] 35) _)
      have HC := Lib.hid (copyC_any hp1 hq1 hsm)
      have HT := Lib.hid (take_snoc he.out)
      have hO1 := hO.below elFctO_ok hbx
      have hB1 := hB.trans (hbx.mono hB.size)
      have hlo := fun g e => hO1.lt g e
      have hlw := fun g e => hO.lt g e
      clear hp hq hsm hp1 hq1 hO hB hbx
      go_wp2_with fail
      generalize wr.alloc (.cells #[.slice A1 n1 c1, .slice A2 n2 c2] 35) = W at hO1 hB1 hbl HC hlo ⊢
      have k0 : W.cell? ⟨wr.heap.size, 0, none⟩ = some (.slice A1 n1 c1) := hbl.cell 0
      have k1 : W.cell? ⟨wr.heap.size, 1, none⟩ = some (.slice A2 n2 c2) := hbl.cell 1
      clear g0 g1 hbl
      go_wp2_with fail
      refine HC.out.mono ?_
      rintro e w5 ⟨Ay, ny, cy, Az, nz, cz, rfl, hy, hb5⟩
      have hz1 := hB1.size
      have hy1 := elFctO_ok _ _ _ _ _ _ (Mv.to w5 (S' := fun k => w.heap.size ≤ k ∧ u5.ownBlock ≠ some k) fun b hb _ => ⟨Nat.le_trans hz1 hb, fun e => by have := (hlo b e).2; omega⟩) hy
      have hO5 := hO1.below elFctO_ok hb5
      have hB5 := hB1.trans (hb5.mono hz1)
      have hz5 := hB5.size
      have hO6 := hO5.alloc elFctO_ok (.cells #[.slice Ay ny cy, .slice Az nz cz] 35)
      have hy6 := elFctO_ok _ _ _ _ _ _ (Mv.alloc w5 (.cells #[.slice Ay ny cy, .slice Az nz cz] 35) _) hy1
      have hone := two_is Ay ny cy Az nz cz
      have hlb : Hid ((L.take k).length ≤ 1000000) := Lib.hid (Nat.le_trans (List.length_take_le k _) (by omega))
      have hB6 := hB5.alloc hz5 (.cells #[.slice Ay ny cy, .slice Az nz cz] 35)
      have hbs : w.heap.size ≤ (w5.alloc (.cells #[.slice Ay ny cy, .slice Az nz cz] 35)).heap.size := by rw [World.size_alloc]; omega
      clear hy hy1 hO5 hB5 hb5
      clear hO1 hB1 HC k0 k1
      go_wp2_with (at_builtin; refine wpList_appX elFctO_ok rfl _ _ rfl info_fact Try.underlying27 rfl (by decide) w.heap.size _ _ _ rfl hO6 _ rfl [.slice Ay ny cy, .slice Az nz cz] rfl (p, q) (cell_two_d w5 _ _ _ _ rfl) hone hy6 hlb.out hbs ?_)
      intro v' w2 hO2 hG2
      have hF := Lib.hid (show OwnR elFctO 35 2 w2 w.heap.size (fun b => w.heap.size ≤ b) v' (L.take (k + 1)) ∧ Below w.heap.size w w2 from ⟨HT.out ▸ hO2, hB6.trans (hG2.below_ hbs (fun g e => (hlo g e).1))⟩)
      clear hO2 hG2 hO6 hy6 hB6 hlo hlw hone
      go_wp2_with fail
      go_roundw
      case rel => exact ⟨k + 1, by omega, by go_num, hF.out.1, hF.out.2⟩
      case measure => simp [intOf]; omega
    · have hF := Lib.hid (show OwnR elFctO 35 2 wr w.heap.size (fun b => w.heap.size ≤ b) u5 L ∧ Below w.heap.size w wr from ⟨by rw [List.take_of_length_le (by have := HL.out; omega)] at hO; exact hO, hB⟩)
      clear hO hB
      go_wp2_with fail
      go_ret
      exact ⟨u5, rfl, hF.out.1, hF.out.2⟩

set_option maxRecDepth 100000 in
/-- Copy. -/
theorem copyB_any {S : Nat → Prop} {A : Option Addr} {n c : Nat} {L : List Fct} {w : World} (h : HasF w S A n c L) (hn : n ≤ 1000) (hL : ∀ f ∈ L, SmallF f) :
    Calls Try.prog 17 #[.slice A n c] w (Told elFctO 35 2 w L) := by
  have HC := Lib.hid (eachF_any h hn hL)
  clear h hn hL
  go_enter Try.func17, Try.ntmps17
  go_wp2_with fail
  refine HC.out.mono ?_
  rintro e w2 ⟨v, rfl, hO, hb⟩
  have hF := Lib.hid (And.intro hO hb)
  clear hO hb HC
  go_wp2_with fail
  go_ret
  exact ⟨v, rfl, hF.out.1, hF.out.2⟩
end Go.Proofs.Ytfddaegepmdohaa
namespace Go.Proofs.Ytfddaegepmdohaa
set_option maxRecDepth 100000
open Go.RowKit

def fewF (L : List Fct) : List Fct := (L.take 10).map fun f => ((f.1.map (fun x => x.take 5)).take 5, f.2.take 5)
theorem one_sl (A : Option Addr) (n c : Nat) : ∀ u ∈ [Value.slice A n c], u.oneCell' = true := by
  intro u hu
  simp at hu
  subst hu
  rfl
theorem take_map_snoc {α β : Type} {f : α → β} {L : List α} {k : Nat} {x : α} (h : L[k]? = some x) : (L.take k).map f ++ [f x] = (L.take (k + 1)).map f := by
  rw [← take_snoc h, List.map_append]; rfl
theorem OwnR.set_ {α : Type} {E : ElT α} {w : World} {S : Nat → Prop} {sz base : Nat} {T : TypeId} {v : Value} {L : List α} (h : OwnR E T sz w base S v L) (hE : E.Ok) {g i : Nat} {u : Value} (hv : v.ownBlock ≠ some g) (hS : ¬ S g) : OwnR E T sz (w.setCell ⟨g, i, none⟩ u) base S v L :=
  h.grown hE (r := g) ⟨rfl, rfl, rfl, by simp [World.setCell], fun k _ hk => by
    simp [World.setCell, Array.getElem?_modify]
    intro e; exact absurd (congrArg some e.symm) hk⟩ hv hS
theorem fewF_snoc {L : List Fct} {k : Nat} {p P5 : List (List Txt)} {q : List Int} (h : L[k]? = some (p, q)) (hk : k < 10) (hP : p.map (fun x => x.take 5) = P5) : fewF (L.take k) ++ [(P5.take 5, q.take 5)] = fewF (L.take (k + 1)) := by
  subst hP
  unfold fewF
  rw [List.take_take, List.take_take, Nat.min_eq_right (by omega), Nat.min_eq_right (by omega), ← take_snoc h, List.map_append]
  rfl
theorem fewF_all {L : List Fct} {k : Nat} (h : L.length ≤ k ∨ 10 ≤ k) : fewF (L.take k) = fewF L := by
  unfold fewF
  rw [List.take_take]
  by_cases h10 : 10 ≤ k
  · rw [Nat.min_eq_left h10]
  · rw [List.take_of_length_le (show L.length ≤ min 10 k by omega), List.take_of_length_le (show L.length ≤ 10 by omega)]
theorem fewF_small {L : List Fct} : (fewF L).length ≤ 10 ∧ ∀ f ∈ fewF L, SmallF f := by
  unfold fewF
  refine ⟨by simp; omega, fun f hf => ?_⟩
  obtain ⟨g, _, rfl⟩ := List.mem_map.1 hf
  refine ⟨by simp; omega, fun p hp => ?_, by simp; omega⟩
  obtain ⟨x, _, rfl⟩ := List.mem_map.1 (List.mem_of_mem_take hp)
  simp; omega
theorem fewF_in {L : List Fct} (h : ∀ f ∈ L, FctIn f) : ∀ f ∈ fewF L, FctIn f := by
  intro f hf
  obtain ⟨g, hg, rfl⟩ := List.mem_map.1 hf
  have h1 := h g (List.mem_of_mem_take hg)
  refine ⟨fun p hp => ?_, fun x hx => h1.2 x (List.mem_of_mem_take hx)⟩
  obtain ⟨x, hx, rfl⟩ := List.mem_map.1 (List.mem_of_mem_take hp)
  exact fun s hs => h1.1 x hx s (List.mem_of_mem_take hs)
set_option maxRecDepth 100000 in
set_option maxHeartbeats 4000000 in
theorem few_any {S : Nat → Prop} {A : Option Addr} {n c : Nat} {L : List Fct} {w : World} (h : HasF w S A n c L) :
    Calls Try.prog 8 #[.slice A n c] w fun e w' => ∃ A' n' c', e = .returned (.slice A' n' c') ∧ HasF w' (fun b => b < w'.heap.size) A' n' c' (fewF L) ∧ Below w.heap.size w w' := by
  have hlm := h.lenMax
  have HL := Lib.hid h.len
  have h1 : HasF w (fun b => S b ∧ b < w.heap.size) A n c L := h.mv elFct_ok (Mv.to w fun b hb hl => ⟨hb, hl⟩)
  have HS : ∀ b, (S b ∧ b < w.heap.size) → b < w.heap.size := fun b hb => hb.2
  clear h
  go_enter Try.func8, Try.ntmps8
  go_wp2_with fail
  go_loopw [3, 4] (fun v i wr => ∃ k : Nat, k ≤ n ∧ k ≤ 10 ∧ i = .int .i64 k ∧ OwnR elFct 35 2 wr w.heap.size (fun _ => True) v (fewF (L.take k)) ∧ Below w.heap.size w wr) (fun _ i _ => n - (intOf i).toNat)
  case atStart => exact ⟨0, Nat.zero_le _, Nat.zero_le _, rfl, OwnR.nil_ w _ _, Below.refl _ _⟩
  case round =>
    obtain ⟨k, hk, hk10, rfl, hO, hBr⟩ := hrel
    by_cases hgo : k < n ∧ k < 10
    · obtain ⟨hlt, hlt10⟩ := hgo
      obtain ⟨b, o, A1, n1, c1, A2, n2, c2, p, q, rfl, hbS, _, g0, g1, hp, hq, he⟩ := h1.at2 hlt
      have hbl := hbS.2
      have i0 : (0 : Int) ≤ (k : Int) := by omega
      have i1 : (k : Int) < (n : Int) := by omega
      have hd1 : decide ((k : Int) < 10) = true := decide_eq_true (by omega)
      have KC : Hid (∀ y, Below wr.heap.size wr y → y.cell? ⟨b, o + k * 2, none⟩ = some (.slice A1 n1 c1) ∧ y.cell? ⟨b, o + k * 2 + 1, none⟩ = some (.slice A2 n2 c2)) := Lib.hid fun y hy => by
        have hy := hBr.trans (hy.mono hBr.size)
        exact ⟨(hy.cell (p := ⟨b, o + k * 2, none⟩) hbl).trans g0, (hy.cell (p := ⟨b, o + k * 2 + 1, none⟩) hbl).trans g1⟩
      have KP : Hid (∀ y, Below wr.heap.size wr y → Row (elRow elText 1) 1 y (fun b => S b ∧ b < w.heap.size) A1 n1 c1 p ∧ Row elInt 1 y (fun b => S b ∧ b < w.heap.size) A2 n2 c2 q) := Lib.hid fun y hy => by
        have hy := hBr.trans (hy.mono hBr.size)
        exact ⟨hp.mv elPath_ok (Mv.below hy HS), hq.mv elInt_ok (Mv.below hy HS)⟩
      have HL1 := Lib.hid hp.len
      have HL2 := Lib.hid hq.len
      obtain ⟨P5, hP5⟩ : ∃ P5, Hid (p.map (fun x => x.take 5) = P5) := ⟨_, Lib.hid rfl⟩
      have hnm1 := hp.lenMax
      have hnm2 := hq.lenMax
      have hcp2 := hq.cap
      have hcm2 := hq.capMax
      have hbx := below_a1 wr (.cells #[.slice none 0 0, .slice none 0 0] 35)
      have hbf := Block.new wr 35 #[.slice none 0 0, .slice none 0 0]
      have HWZ := Lib.hid hBr.size
      have hsz : (wr.alloc (.cells #[.slice none 0 0, .slice none 0 0] 35)).heap.size = wr.heap.size + 1 := by simp
      have hPn : OwnR (elRow elText 1) 23 1 (wr.alloc (.cells #[.slice none 0 0, .slice none 0 0] 35)) (wr.heap.size + 1) (fun b => S b ∧ b < w.heap.size) (.slice none 0 0) (P5.take 0) := OwnR.nil_ _ _ _
      clear g0 g1 hp hq hsz
      go_wp2_with fail
      generalize wr.alloc (.cells #[.slice none 0 0, .slice none 0 0] 35) = W at hbx hbf hPn ⊢
      obtain ⟨wb, rfl⟩ : ∃ wb, wb = wr := ⟨_, rfl⟩
      go_loopw [6] (fun j wi => ∃ (t : Nat) (vp : Value), t ≤ n1 ∧ t ≤ 5 ∧ j = .int .i64 t ∧ Below wb.heap.size wb wi ∧ Block wi wb.heap.size 35 #[vp, .slice none 0 0] ∧ OwnR (elRow elText 1) 23 1 wi (wb.heap.size + 1) (fun b => S b ∧ b < w.heap.size) vp (P5.take t)) (fun j _ => n1 - (intOf j).toNat)
      case atStart => exact ⟨0, .slice none 0 0, Nat.zero_le _, Nat.zero_le _, rfl, hbx, hbf, hPn⟩
      case round =>
        clear hbx hbf hPn
        obtain ⟨j, vp, hj, hj5, rfl, hB, hblk, hP⟩ := hrel
        obtain ⟨f0, f1⟩ := KC.out wr hB
        have k0 : wr.cell? ⟨wb.heap.size, 0, none⟩ = some vp := hblk.cell 0
        by_cases hgo2 : j < n1 ∧ j < 5
        · obtain ⟨hlj, hlj5⟩ := hgo2
          obtain ⟨b', o', A', n', c', x, rfl, _, _, t0, hx, hxe⟩ := (KP.out wr hB).1.at1 hlj
          have i2 : (0 : Int) ≤ (j : Int) := by omega
          have i3 : (j : Int) < (n1 : Int) := by omega
          have hd2 : decide ((j : Int) < 5) = true := decide_eq_true (by omega)
          have hxl := hx.len
          have hxm := hx.lenMax
          have hxc := hx.cap
          have hxcm := hx.capMax
          by_cases h5 : (5 : Int) < (n' : Int)
          · have hc5 : (5 : Int) ≤ (c' : Int) := by omega
            have hrow : Row elText 1 wr (fun b => S b ∧ b < w.heap.size) A' 5 c' (x.take 5) := hx.take_ (by omega)
            have hP1 := hP.alloc elPath_ok (.cells #[.slice A' 5 c'] 23)
            have hblk1 := hblk.alloc (.cells #[.slice A' 5 c'] 23)
            have hB1 := hB.trans ((below_a1 wr (.cells #[.slice A' 5 c'] 23)).mono hB.size)
            have hlb : Hid ((P5.take j).length ≤ 1000000) := Lib.hid (Nat.le_trans (List.length_take_le j _) (by omega))
            have hlo := fun g e => hP1.lt g e
            have hel : elRow elText 1 (wr.alloc (.cells #[.slice A' 5 c'] 23)) (fun b => (S b ∧ b < w.heap.size) ∧ vp.ownBlock ≠ some b) [.slice A' 5 c'] (x.take 5) :=
              elPath_ok _ _ _ _ _ _ (Mv.alloc wr _ _) ⟨A', 5, c', rfl, hrow.mv elText_ok (Mv.to wr fun b hb _ => ⟨hb, fun e => by have := (hlo b e).1; have := hb.2; have := HWZ.out; omega⟩)⟩
            have hbs : wb.heap.size + 1 ≤ (wr.alloc (.cells #[.slice A' 5 c'] 23)).heap.size := by rw [World.size_alloc]; have := hblk.lt; omega
            have HT := Lib.hid (take_snoc (show P5[j]? = some (x.take 5) by rw [← hP5.out, List.getElem?_map, hxe.out]; rfl))
            have k1 : (wr.alloc (.cells #[.slice A' 5 c'] 23)).cell? ⟨wb.heap.size, 0, none⟩ = some vp := hblk1.cell 0
            clear hP hblk hB hrow hx
            go_wp2_with (at_builtin; refine wpList_appX elPath_ok rfl _ _ rfl info_rowT Try.underlying33 rfl (by decide) (wb.heap.size + 1) _ _ _ rfl hP1 _ rfl [.slice A' 5 c'] rfl (x.take 5) (cell_litX wr _ _) (one_sl A' 5 c') hel hlb.out hbs ?_)
            intro v' w2 hP2 hG2
            rw [HT.out] at hP2
            obtain ⟨Av, nv, cv, rfl⟩ : ∃ A n c, v' = .slice A n c := by
              obtain ⟨A, c, e⟩ := hP2.shape
              exact ⟨A, _, c, e⟩
            have hbn := hblk1.grown hG2.1 (fun e => by have := (hlo _ e).1; omega)
            have d0 : w2.cell? ⟨wb.heap.size, 0, none⟩ = some vp := hbn.cell 0
            have d1 := hbn.free 0
            have hF := Lib.hid (show Below wb.heap.size wb (w2.setCell ⟨wb.heap.size, 0, none⟩ (.slice Av nv cv)) ∧ Block (w2.setCell ⟨wb.heap.size, 0, none⟩ (.slice Av nv cv)) wb.heap.size 35 #[.slice Av nv cv, .slice none 0 0] ∧ OwnR (elRow elText 1) 23 1 (w2.setCell ⟨wb.heap.size, 0, none⟩ (.slice Av nv cv)) (wb.heap.size + 1) (fun b => S b ∧ b < w.heap.size) (.slice Av nv cv) (P5.take (j + 1)) from
              ⟨(hB1.trans (hG2.below_ hB1.size (fun g e => by have := (hlo g e).1; omega))).setCell (p := ⟨wb.heap.size, 0, none⟩) (Nat.le_refl _) (.slice Av nv cv), hbn.set_ 0 (.slice Av nv cv), hP2.set_ elPath_ok (fun e => by have := (hP2.lt _ e).1; omega) (fun h => by have := h.2; have := HWZ.out; omega)⟩)
            clear hP1 hP2 hG2 hbn hB1 hblk1 hlo hel k1
            go_wp2_with fail
            go_roundw
            case rel => exact ⟨j + 1, .slice Av nv cv, by omega, by omega, by go_num, hF.out⟩
            case measure => simp [intOf]; omega
          · have hrow : Row elText 1 wr (fun b => S b ∧ b < w.heap.size) A' n' c' (x.take 5) := by rw [List.take_of_length_le (by omega)]; exact hx
            have hP1 := hP.alloc elPath_ok (.cells #[.slice A' n' c'] 23)
            have hblk1 := hblk.alloc (.cells #[.slice A' n' c'] 23)
            have hB1 := hB.trans ((below_a1 wr (.cells #[.slice A' n' c'] 23)).mono hB.size)
            have hlb : Hid ((P5.take j).length ≤ 1000000) := Lib.hid (Nat.le_trans (List.length_take_le j _) (by omega))
            have hlo := fun g e => hP1.lt g e
            have hel : elRow elText 1 (wr.alloc (.cells #[.slice A' n' c'] 23)) (fun b => (S b ∧ b < w.heap.size) ∧ vp.ownBlock ≠ some b) [.slice A' n' c'] (x.take 5) :=
              elPath_ok _ _ _ _ _ _ (Mv.alloc wr _ _) ⟨A', n', c', rfl, hrow.mv elText_ok (Mv.to wr fun b hb _ => ⟨hb, fun e => by have := (hlo b e).1; have := hb.2; have := HWZ.out; omega⟩)⟩
            have hbs : wb.heap.size + 1 ≤ (wr.alloc (.cells #[.slice A' n' c'] 23)).heap.size := by rw [World.size_alloc]; have := hblk.lt; omega
            have HT := Lib.hid (take_snoc (show P5[j]? = some (x.take 5) by rw [← hP5.out, List.getElem?_map, hxe.out]; rfl))
            have k1 : (wr.alloc (.cells #[.slice A' n' c'] 23)).cell? ⟨wb.heap.size, 0, none⟩ = some vp := hblk1.cell 0
            clear hP hblk hB hrow hx
            go_wp2_with (at_builtin; refine wpList_appX elPath_ok rfl _ _ rfl info_rowT Try.underlying33 rfl (by decide) (wb.heap.size + 1) _ _ _ rfl hP1 _ rfl [.slice A' n' c'] rfl (x.take 5) (cell_litX wr _ _) (one_sl A' n' c') hel hlb.out hbs ?_)
            intro v' w2 hP2 hG2
            rw [HT.out] at hP2
            obtain ⟨Av, nv, cv, rfl⟩ : ∃ A n c, v' = .slice A n c := by
              obtain ⟨A, c, e⟩ := hP2.shape
              exact ⟨A, _, c, e⟩
            have hbn := hblk1.grown hG2.1 (fun e => by have := (hlo _ e).1; omega)
            have d0 : w2.cell? ⟨wb.heap.size, 0, none⟩ = some vp := hbn.cell 0
            have d1 := hbn.free 0
            have hF := Lib.hid (show Below wb.heap.size wb (w2.setCell ⟨wb.heap.size, 0, none⟩ (.slice Av nv cv)) ∧ Block (w2.setCell ⟨wb.heap.size, 0, none⟩ (.slice Av nv cv)) wb.heap.size 35 #[.slice Av nv cv, .slice none 0 0] ∧ OwnR (elRow elText 1) 23 1 (w2.setCell ⟨wb.heap.size, 0, none⟩ (.slice Av nv cv)) (wb.heap.size + 1) (fun b => S b ∧ b < w.heap.size) (.slice Av nv cv) (P5.take (j + 1)) from
              ⟨(hB1.trans (hG2.below_ hB1.size (fun g e => by have := (hlo g e).1; omega))).setCell (p := ⟨wb.heap.size, 0, none⟩) (Nat.le_refl _) (.slice Av nv cv), hbn.set_ 0 (.slice Av nv cv), hP2.set_ elPath_ok (fun e => by have := (hP2.lt _ e).1; omega) (fun h => by have := h.2; have := HWZ.out; omega)⟩)
            clear hP1 hP2 hG2 hbn hB1 hblk1 hlo hel k1
            go_wp2_with fail
            go_roundw
            case rel => exact ⟨j + 1, .slice Av nv cv, by omega, by omega, by go_num, hF.out⟩
            case measure => simp [intOf]; omega
        · have HP5 : Hid (P5.take j = P5.take 5) := Lib.hid (by
            have h5 : P5.length = n1 := by rw [← hP5.out, List.length_map]; exact HL1.out
            by_cases h : j < n1
            · congr 1; omega
            · rw [List.take_of_length_le (by omega), List.take_of_length_le (by omega)])
          obtain ⟨Av, nv, cv, rfl, hpr⟩ : ∃ A n c, vp = .slice A n c ∧ Row (elRow elText 1) 1 wr (fun b => (S b ∧ b < w.heap.size) ∨ wb.heap.size + 1 ≤ b) A n c (P5.take j) := by
            obtain ⟨A, c, e, h⟩ := hP.read elPath_ok
            exact ⟨A, _, c, e, h.mv elPath_ok (Mv.to wr fun b hb _ => hb.imp id And.left)⟩
          rw [HP5.out] at hpr
          have z1 : wr.cell? ⟨wb.heap.size, 1, none⟩ = some (.slice none 0 0) := hblk.cell 1
          have z2 := hblk.free 1
          have hqr := (KP.out wr hB).2
          have s1 := hblk.set_ 1 (.slice A2 n2 c2)
          have s3 := s1.free 1
          have s4 : (wr.setCell ⟨wb.heap.size, 1, none⟩ (.slice A2 n2 c2)).cell? ⟨wb.heap.size, 1, none⟩ = some (.slice A2 n2 c2) := s1.cell 1
          have hd2 : j < n1 → decide ((j : Int) < 5) = false := fun h => decide_eq_false (by omega)
          by_cases h5 : (5 : Int) < (n2 : Int)
          · have hc5 : (5 : Int) ≤ (c2 : Int) := by omega
            have s5 := s1.set_ 1 (.slice A2 5 c2)

            have hb8 : Below wb.heap.size wb ((wr.setCell ⟨wb.heap.size, 1, none⟩ (.slice A2 n2 c2)).setCell ⟨wb.heap.size, 1, none⟩ (.slice A2 5 c2)) := (hB.setCell (p := ⟨wb.heap.size, 1, none⟩) (Nat.le_refl _) (.slice A2 n2 c2)).setCell (p := ⟨wb.heap.size, 1, none⟩) (Nat.le_refl _) (.slice A2 5 c2)
            have hk8 : Block ((wr.setCell ⟨wb.heap.size, 1, none⟩ (.slice A2 n2 c2)).setCell ⟨wb.heap.size, 1, none⟩ (.slice A2 5 c2)) wb.heap.size 35 #[.slice Av nv cv, .slice A2 5 c2] := s5
            have hmX : ∀ (T : Nat → Prop), ¬ T wb.heap.size → Mv wr T ((wr.setCell ⟨wb.heap.size, 1, none⟩ (.slice A2 n2 c2)).setCell ⟨wb.heap.size, 1, none⟩ (.slice A2 5 c2)) T := fun T hT => Mv.trans (Mv.set wr wb.heap.size 1 (.slice A2 n2 c2) hT) (Mv.set (wr.setCell ⟨wb.heap.size, 1, none⟩ (.slice A2 n2 c2)) wb.heap.size 1 (.slice A2 5 c2) hT)
            have hlo0 := fun g e => hO.lt g e
            have hel0 : elFct ((wr.setCell ⟨wb.heap.size, 1, none⟩ (.slice A2 n2 c2)).setCell ⟨wb.heap.size, 1, none⟩ (.slice A2 5 c2)) (fun b => True ∧ u3.ownBlock ≠ some b) [.slice Av nv cv, .slice A2 5 c2] (P5.take 5, q.take 5) :=
              ⟨⟨Av, nv, cv, rfl, hpr.mv elPath_ok (Mv.trans (hmX _ (fun hb => by
                  rcases hb with hb | hb
                  · have := hb.2; have := HWZ.out; omega
                  · omega)) (Mv.to _ fun b hb _ => ⟨trivial, fun e => by
                    have h1 := hlo0 b e
                    rcases hb with hb | hb
                    · have := hb.2; omega
                    · omega⟩))⟩,
               ⟨A2, 5, c2, rfl, (show Row elInt 1 wr (fun b => S b ∧ b < w.heap.size) A2 5 c2 (q.take 5) from hqr.take_ (by omega)).mv elInt_ok (Mv.trans (hmX _ (fun hb => by
                  have := hb.2; have := HWZ.out; omega)) (Mv.to _ fun b hb _ => ⟨trivial, fun e => by
                    have h1 := hlo0 b e
                    have := hb.2; omega⟩))⟩⟩
            have hO8 := hO.below elFct_ok hb8
            have hBW := Lib.hid (hBr.trans (hb8.mono HWZ.out))
            have e0 : ((wr.setCell ⟨wb.heap.size, 1, none⟩ (.slice A2 n2 c2)).setCell ⟨wb.heap.size, 1, none⟩ (.slice A2 5 c2)).cell? ⟨wb.heap.size, 0, none⟩ = some (.slice Av nv cv) := hk8.cell 0
            have e1 : ((wr.setCell ⟨wb.heap.size, 1, none⟩ (.slice A2 n2 c2)).setCell ⟨wb.heap.size, 1, none⟩ (.slice A2 5 c2)).cell? ⟨wb.heap.size, 1, none⟩ = some (.slice A2 5 c2) := hk8.cell 1
            clear hpr hP hk8 hO hmX
            have hO9 := hO8.alloc elFct_ok (.cells #[.slice Av nv cv, .slice A2 5 c2] 35)
            have hel := elFct_ok _ _ _ _ _ _ (Mv.alloc ((wr.setCell ⟨wb.heap.size, 1, none⟩ (.slice A2 n2 c2)).setCell ⟨wb.heap.size, 1, none⟩ (.slice A2 5 c2)) (.cells #[.slice Av nv cv, .slice A2 5 c2] 35) _) hel0
            have hbs : w.heap.size ≤ (((wr.setCell ⟨wb.heap.size, 1, none⟩ (.slice A2 n2 c2)).setCell ⟨wb.heap.size, 1, none⟩ (.slice A2 5 c2)).alloc (.cells #[.slice Av nv cv, .slice A2 5 c2] 35)).heap.size := by rw [World.size_alloc]; have := hBW.out.size; omega
            have hlb : Hid ((fewF (L.take k)).length ≤ 1000000) := Lib.hid (Nat.le_trans (fewF_small).1 (by decide))
            have hB9 := Lib.hid (hBW.out.trans ((below_a1 ((wr.setCell ⟨wb.heap.size, 1, none⟩ (.slice A2 n2 c2)).setCell ⟨wb.heap.size, 1, none⟩ (.slice A2 5 c2)) (.cells #[.slice Av nv cv, .slice A2 5 c2] 35)).mono hBW.out.size))
            have HT := Lib.hid (fewF_snoc he.out hlt10 hP5.out)
            clear hel0 hO8 hb8
            go_wp2_with (at_builtin; refine wpList_appX elFct_ok rfl _ _ rfl info_fact Try.underlying27 rfl (by decide) w.heap.size _ u3 _ rfl hO9 _ rfl [.slice Av nv cv, .slice A2 5 c2] rfl (P5.take 5, q.take 5) (cell_two_d ((wr.setCell ⟨wb.heap.size, 1, none⟩ (.slice A2 n2 c2)).setCell ⟨wb.heap.size, 1, none⟩ (.slice A2 5 c2)) _ _ _ _ (by simp [World.setCell])) (two_is _ _ _ _ _ _) hel hlb.out hbs ?_)
            all_goals
              intro v' w2 hO2 hG2
              have hF := Lib.hid (show OwnR elFct 35 2 w2 w.heap.size (fun _ => True) v' (fewF (L.take (k + 1))) ∧ Below w.heap.size w w2 from ⟨HT.out ▸ hO2, hB9.out.trans (hG2.below_ hbs (fun g e => (hlo0 g e).1))⟩)
              clear hO9 hel hO2 hG2 e0 e1 hlo0
              go_wp2_with fail
              go_roundw
              case rel => exact ⟨k + 1, by omega, by omega, by go_num, hF.out⟩
              case measure => simp [intOf]; omega
          · have hb8 : Below wb.heap.size wb (wr.setCell ⟨wb.heap.size, 1, none⟩ (.slice A2 n2 c2)) := hB.setCell (p := ⟨wb.heap.size, 1, none⟩) (Nat.le_refl _) (.slice A2 n2 c2)
            have hk8 : Block (wr.setCell ⟨wb.heap.size, 1, none⟩ (.slice A2 n2 c2)) wb.heap.size 35 #[.slice Av nv cv, .slice A2 n2 c2] := s1
            have hmX : ∀ (T : Nat → Prop), ¬ T wb.heap.size → Mv wr T (wr.setCell ⟨wb.heap.size, 1, none⟩ (.slice A2 n2 c2)) T := fun T hT => Mv.set wr wb.heap.size 1 (.slice A2 n2 c2) hT
            have hlo0 := fun g e => hO.lt g e
            have hel0 : elFct (wr.setCell ⟨wb.heap.size, 1, none⟩ (.slice A2 n2 c2)) (fun b => True ∧ u3.ownBlock ≠ some b) [.slice Av nv cv, .slice A2 n2 c2] (P5.take 5, q.take 5) :=
              ⟨⟨Av, nv, cv, rfl, hpr.mv elPath_ok (Mv.trans (hmX _ (fun hb => by
                  rcases hb with hb | hb
                  · have := hb.2; have := HWZ.out; omega
                  · omega)) (Mv.to _ fun b hb _ => ⟨trivial, fun e => by
                    have h1 := hlo0 b e
                    rcases hb with hb | hb
                    · have := hb.2; omega
                    · omega⟩))⟩,
               ⟨A2, n2, c2, rfl, (show Row elInt 1 wr (fun b => S b ∧ b < w.heap.size) A2 n2 c2 (q.take 5) from by rw [List.take_of_length_le (by have := HL2.out; omega)]; exact hqr).mv elInt_ok (Mv.trans (hmX _ (fun hb => by
                  have := hb.2; have := HWZ.out; omega)) (Mv.to _ fun b hb _ => ⟨trivial, fun e => by
                    have h1 := hlo0 b e
                    have := hb.2; omega⟩))⟩⟩
            have hO8 := hO.below elFct_ok hb8
            have hBW := Lib.hid (hBr.trans (hb8.mono HWZ.out))
            have e0 : (wr.setCell ⟨wb.heap.size, 1, none⟩ (.slice A2 n2 c2)).cell? ⟨wb.heap.size, 0, none⟩ = some (.slice Av nv cv) := hk8.cell 0
            have e1 : (wr.setCell ⟨wb.heap.size, 1, none⟩ (.slice A2 n2 c2)).cell? ⟨wb.heap.size, 1, none⟩ = some (.slice A2 n2 c2) := hk8.cell 1
            clear hpr hP hk8 hO hmX
            have hO9 := hO8.alloc elFct_ok (.cells #[.slice Av nv cv, .slice A2 n2 c2] 35)
            have hel := elFct_ok _ _ _ _ _ _ (Mv.alloc (wr.setCell ⟨wb.heap.size, 1, none⟩ (.slice A2 n2 c2)) (.cells #[.slice Av nv cv, .slice A2 n2 c2] 35) _) hel0
            have hbs : w.heap.size ≤ ((wr.setCell ⟨wb.heap.size, 1, none⟩ (.slice A2 n2 c2)).alloc (.cells #[.slice Av nv cv, .slice A2 n2 c2] 35)).heap.size := by rw [World.size_alloc]; have := hBW.out.size; omega
            have hlb : Hid ((fewF (L.take k)).length ≤ 1000000) := Lib.hid (Nat.le_trans (fewF_small).1 (by decide))
            have hB9 := Lib.hid (hBW.out.trans ((below_a1 (wr.setCell ⟨wb.heap.size, 1, none⟩ (.slice A2 n2 c2)) (.cells #[.slice Av nv cv, .slice A2 n2 c2] 35)).mono hBW.out.size))
            have HT := Lib.hid (fewF_snoc he.out hlt10 hP5.out)
            clear hel0 hO8 hb8
            go_wp2_with (at_builtin; refine wpList_appX elFct_ok rfl _ _ rfl info_fact Try.underlying27 rfl (by decide) w.heap.size _ u3 _ rfl hO9 _ rfl [.slice Av nv cv, .slice A2 n2 c2] rfl (P5.take 5, q.take 5) (cell_two_d (wr.setCell ⟨wb.heap.size, 1, none⟩ (.slice A2 n2 c2)) _ _ _ _ (by simp [World.setCell])) (two_is _ _ _ _ _ _) hel hlb.out hbs ?_)
            all_goals
              intro v' w2 hO2 hG2
              have hF := Lib.hid (show OwnR elFct 35 2 w2 w.heap.size (fun _ => True) v' (fewF (L.take (k + 1))) ∧ Below w.heap.size w w2 from ⟨HT.out ▸ hO2, hB9.out.trans (hG2.below_ hbs (fun g e => (hlo0 g e).1))⟩)
              clear hO9 hel hO2 hG2 e0 e1 hlo0
              go_wp2_with fail
              go_roundw
              case rel => exact ⟨k + 1, by omega, by omega, by go_num, hF.out⟩
              case measure => simp [intOf]; omega
    · have HX := Lib.hid (fewF_all (L := L) (k := k) (by have := HL.out; omega))
      obtain ⟨Av, nv, cv, rfl, hr⟩ : ∃ A n c, u3 = .slice A n c ∧ HasF wr (fun b => b < wr.heap.size) A n c (fewF (L.take k)) := by
        obtain ⟨Av, cv, e, hr⟩ := hO.read elFct_ok
        exact ⟨Av, _, cv, e, hr.mv elFct_ok (Mv.to wr (S' := fun b => b < wr.heap.size) fun b _ hl => hl)⟩
      rw [HX.out] at hr
      have hF := Lib.hid hr
      clear hr hO
      by_cases hlt : k < n
      · have hd1 : decide ((k : Int) < 10) = false := decide_eq_false (by omega)
        clear hgo
        go_wp2_with fail
        go_ret
        exact ⟨_, _, _, rfl, hF.out, hBr⟩
      · clear hgo
        go_wp2_with fail
        go_ret
        exact ⟨_, _, _, rfl, hF.out, hBr⟩
end Go.Proofs.Ytfddaegepmdohaa
namespace Go.Proofs.Ytfddaegepmdohaa
set_option maxRecDepth 100000
open Go.RowKit

/-- The first n of a slice lie in blocks of type T, from base on and below top, that may be written. -/
def Wr (w : World) (base top : Nat) (T : TypeId) (A : Option Addr) (n : Nat) : Prop := ∀ k, k < n → ∃ g o cs u, A = some ⟨g, o, none⟩ ∧ base ≤ g ∧ g < top ∧ Block w g T cs ∧ cs[o + k]? = some u
def TRow (w : World) (base top : Nat) (T : TypeId) (x : Value) : Prop := ∃ A n c, x = .slice A n c ∧ n ≤ c ∧ c ≤ 9223372036854775807 ∧ Wr w base top T A n
/-- .. rows of such rows: of elements y that are slices of elements of type T'. -/
def TRows (w : World) (base top : Nat) (T T' : TypeId) (x : Value) : Prop := ∃ A n c, x = .slice A n c ∧ n ≤ c ∧ c ≤ 9223372036854775807 ∧ ∀ k, k < n → ∃ g o cs y, A = some ⟨g, o, none⟩ ∧ base ≤ g ∧ g < top ∧ Block w g T cs ∧ cs[o + k]? = some y ∧ TRow w base top T' y
/-- .. rows of facts. -/
def TFs (w : World) (base top : Nat) (A : Option Addr) (n : Nat) : Prop := ∀ k, k < n → ∃ g o cs y z, A = some ⟨g, o, none⟩ ∧ base ≤ g ∧ g < top ∧ Block w g 35 cs ∧ cs[o + k * 2]? = some y ∧ cs[o + k * 2 + 1]? = some z ∧ TRows w base top 23 9 y ∧ TRow w base top 3 z
section
variable {w w' : World} {base top : Nat} {T T' : TypeId} {A : Option Addr} {n : Nat} {x : Value}
theorem trow_none (w : World) (base top : Nat) (T : TypeId) : TRow w base top T (.slice none 0 0) := ⟨none, 0, 0, rfl, Nat.le_refl _, by omega, fun k hk => absurd hk (by omega)⟩
theorem get_set {cs : Array Value} {i j : Nat} {u v : Value} (h : cs[j]? = some v) : ∃ v', (cs.setIfInBounds i u)[j]? = some v' ∧ (v' = v ∨ v' = u) := by
  rw [Array.getElem?_setIfInBounds]
  by_cases e : i = j
  · subst e
    have hl := (Array.getElem?_eq_some_iff.1 h).1
    exact ⟨u, by simp [hl], .inr rfl⟩
  · exact ⟨v, by rw [if_neg e]; exact h, .inl rfl⟩
theorem Wr.set_ (h : Wr w base top T A n) (b i : Nat) (u : Value) : Wr (w.setCell ⟨b, i, none⟩ u) base top T A n := fun k hk => by
  obtain ⟨g, o, cs, v, h1, h2, h3, h4, h5⟩ := h k hk
  by_cases e : b = g
  · subst e
    obtain ⟨v', e', _⟩ := get_set (i := i) (u := u) h5
    exact ⟨b, o, _, v', h1, h2, h3, h4.set_ i u, e'⟩
  · exact ⟨g, o, cs, v, h1, h2, h3, h4.elsewhere b i u e, h5⟩
theorem TRow.set_ (h : TRow w base top T x) (b i : Nat) (u : Value) : TRow (w.setCell ⟨b, i, none⟩ u) base top T x := by
  obtain ⟨A, n, c, h1, h2, h3, h4⟩ := h
  exact ⟨A, n, c, h1, h2, h3, h4.set_ b i u⟩
theorem block_type {g : Nat} {cs cs' : Array Value} (h : Block w g T cs) (h' : Block w g T' cs') : T = T' := by
  have h1 : w.heap[g]? = some (.cells cs T (0, 0)) := h
  have h2 : w.heap[g]? = some (.cells cs' T' (0, 0)) := h'
  rw [h1] at h2
  simp only [Option.some.injEq, Obj.cells.injEq] at h2
  exact h2.2.1
theorem TRows.set_ {S : TypeId} (h : TRows w base top T T' x) {b : Nat} {cs : Array Value} (hb : Block w b S cs) (i : Nat) (u : Value) (hu : S ≠ T ∨ u = .slice none 0 0) : TRows (w.setCell ⟨b, i, none⟩ u) base top T T' x := by
  obtain ⟨A, n, c, h1, h2, h3, h4⟩ := h
  refine ⟨A, n, c, h1, h2, h3, fun k hk => ?_⟩
  obtain ⟨g, o, ds, y, e1, e2, e3, e4, e5, e6⟩ := h4 k hk
  by_cases e : b = g
  · subst e
    obtain ⟨v', e', hv⟩ := get_set (i := i) (u := u) e5
    refine ⟨b, o, _, v', e1, e2, e3, e4.set_ i u, e', ?_⟩
    rcases hv with rfl | rfl
    · exact e6.set_ b i u
    · rcases hu with hu | hu
      · exact absurd (block_type hb e4) hu
      · subst hu
        exact trow_none _ _ _ _
  · exact ⟨g, o, ds, y, e1, e2, e3, e4.elsewhere b i u e, e5, e6.set_ b i u⟩
theorem TFs.set_ {S : TypeId} (h : TFs w base top A n) {b : Nat} {cs : Array Value} (hb : Block w b S cs) (hS : S ≠ 35) (i : Nat) (u : Value) (hu : S ≠ 23 ∨ u = .slice none 0 0) : TFs (w.setCell ⟨b, i, none⟩ u) base top A n := fun k hk => by
  obtain ⟨g, o, ds, y, z, e1, e2, e3, e4, e5, e6, e7, e8⟩ := h k hk
  have hne : b ≠ g := fun e => by
    subst e
    exact hS (block_type hb e4)
  exact ⟨g, o, ds, y, z, e1, e2, e3, e4.elsewhere b i u hne, e5, e6, e7.set_ hb i u hu, e8.set_ b i u⟩
theorem Wr.below (h : Wr w base top T A n) (hb : Below w.heap.size w w') : Wr w' base top T A n := fun k hk => by
  obtain ⟨g, o, cs, v, h1, h2, h3, h4, h5⟩ := h k hk
  exact ⟨g, o, cs, v, h1, h2, h3, h4.below hb h4.lt, h5⟩
theorem TRow.below (h : TRow w base top T x) (hb : Below w.heap.size w w') : TRow w' base top T x := by
  obtain ⟨A, n, c, h1, h2, h3, h4⟩ := h
  exact ⟨A, n, c, h1, h2, h3, h4.below hb⟩
theorem TRows.below (h : TRows w base top T T' x) (hb : Below w.heap.size w w') : TRows w' base top T T' x := by
  obtain ⟨A, n, c, h1, h2, h3, h4⟩ := h
  refine ⟨A, n, c, h1, h2, h3, fun k hk => ?_⟩
  obtain ⟨g, o, ds, y, e1, e2, e3, e4, e5, e6⟩ := h4 k hk
  exact ⟨g, o, ds, y, e1, e2, e3, e4.below hb e4.lt, e5, e6.below hb⟩
theorem TFs.below (h : TFs w base top A n) (hb : Below w.heap.size w w') : TFs w' base top A n := fun k hk => by
  obtain ⟨g, o, ds, y, z, e1, e2, e3, e4, e5, e6, e7, e8⟩ := h k hk
  exact ⟨g, o, ds, y, z, e1, e2, e3, e4.below hb e4.lt, e5, e6, e7.below hb, e8.below hb⟩
/-! ### What is told is so -/
theorem OwnR.cells {α : Type} {E : ElT α} {S : Nat → Prop} {L : List α} {sz : Nat} (h : OwnR E T sz w base S x L) : ∃ A c, x = .slice A L.length c ∧ L.length ≤ c ∧ c ≤ 9223372036854775807 ∧ ∀ k y, L[k]? = some y → ∃ g cs, A = some ⟨g, 0, none⟩ ∧ base ≤ g ∧ g < w.heap.size ∧ x.ownBlock = some g ∧ Block w g T cs ∧ E w (fun b => S b ∧ x.ownBlock ≠ some b) ((cs.toList.drop (k * sz)).take sz) y := by
  obtain ⟨vs, h1, h2⟩ := h
  rcases h1.2 with ⟨rfl, h0⟩ | ⟨g, cap, cur, rfl, hb, hg, hnc, hcm, hcs, ht⟩
  · refine ⟨none, 0, by rw [h0], by omega, by omega, fun k y hk => ?_⟩
    have := (List.getElem?_eq_some_iff.1 hk).1
    omega
  · refine ⟨_, cap, rfl, hnc, by unfold maxLen at hcm; omega, fun k y hk => ⟨g, cur, rfl, hb, (Array.getElem?_eq_some_iff.1 hg).1, rfl, hg, ?_⟩⟩
    have h3 := h2 k y hk
    have hkl := (List.getElem?_eq_some_iff.1 hk).1
    rw [← ht, List.drop_take, List.take_take] at h3
    rw [Nat.min_eq_left] at h3
    · exact h3
    · have : k * sz + sz ≤ L.length * sz := by rw [← Nat.succ_mul]; exact Nat.mul_le_mul_right sz hkl
      omega
theorem take_one {cs : Array Value} {k : Nat} {y : Value} (h : (cs.toList.drop (k * 1)).take 1 = [y]) : cs[0 + k]? = some y := by
  have h1 := congrArg (fun l => l[0]?) h
  simpa [List.getElem?_take, List.getElem?_drop] using h1
theorem elOwn_trow {α : Type} {E : ElT α} {S : Nat → Prop} {L : List α} (hE : ∀ w S us y, E w S us y → ∃ u, us = [u]) (h : elOwn E T 1 w S [x] L) (hS : ∀ k, S k → base ≤ k) : TRow w base w.heap.size T x := by
  obtain ⟨v, e, h1, h2⟩ := h
  injection e with e _
  subst e
  obtain ⟨A, c, e, hc1, hc2, hk⟩ := h1.cells
  refine ⟨A, L.length, c, e, hc1, hc2, fun k hkl => ?_⟩
  obtain ⟨g, cs, e1, _, e3, e4, e5, e6⟩ := hk k _ (List.getElem?_eq_getElem hkl)
  obtain ⟨u, hu⟩ := hE _ _ _ _ e6
  exact ⟨g, 0, cs, u, e1, hS g (h2 g e4), e3, e5, take_one hu⟩
theorem elOwn_trows {α : Type} {E : ElT α} {S : Nat → Prop} {L : List (List α)} (hE : ∀ w S us y, E w S us y → ∃ u, us = [u]) (h : elOwn (elOwn E T' 1) T 1 w S [x] L) (hS : ∀ k, S k → base ≤ k) : TRows w base w.heap.size T T' x := by
  obtain ⟨v, e, h1, h2⟩ := h
  injection e with e _
  subst e
  obtain ⟨A, c, e, hc1, hc2, hk⟩ := h1.cells
  refine ⟨A, L.length, c, e, hc1, hc2, fun k hkl => ?_⟩
  obtain ⟨g, cs, e1, _, e3, e4, e5, e6⟩ := hk k _ (List.getElem?_eq_getElem hkl)
  obtain ⟨u, hu, _⟩ := id e6
  rw [hu] at e6
  exact ⟨g, 0, cs, u, e1, hS g (h2 g e4), e3, e5, take_one hu, elOwn_trow hE e6 fun b hb => hS b hb.1⟩
end
theorem elT_one : ∀ w S us y, elText w S us y → ∃ u, us = [u] := fun _ _ _ _ h => ⟨_, h⟩
theorem elI_one : ∀ w S us y, elInt w S us y → ∃ u, us = [u] := fun _ _ _ _ h => ⟨_, h⟩
theorem tfs_of {w : World} {C : Nat} {v : Value} {L : List Fct} (h : OwnR elFctO 35 2 w C (fun k => C ≤ k) v L) : ∃ A c, v = .slice A L.length c ∧ L.length ≤ c ∧ c ≤ 9223372036854775807 ∧ TFs w C w.heap.size A L.length := by
  obtain ⟨A, c, e, hc1, hc2, hk⟩ := h.cells
  refine ⟨A, c, e, hc1, hc2, fun k hkl => ?_⟩
  obtain ⟨g, cs, e1, e2, e3, e4, e5, e6⟩ := hk k _ (List.getElem?_eq_getElem hkl)
  obtain ⟨h1, h2⟩ := e6
  obtain ⟨y, hy, _⟩ := id h1
  obtain ⟨z, hz, _⟩ := id h2
  rw [hy] at h1
  rw [hz] at h2
  refine ⟨g, 0, cs, y, z, e1, e2, e3, e5, ?_, ?_, elOwn_trows elT_one h1 (fun b hb => hb.1), elOwn_trow elI_one h2 (fun b hb => hb.1)⟩
  · have h3 := congrArg (fun l => l[0]?) hy
    simpa [List.getElem?_take, List.getElem?_drop] using h3
  · have h3 := congrArg (fun l => l[0]?) hz
    simpa [List.getElem?_take, List.getElem?_drop] using h3
theorem trows_of {w : World} {C : Nat} {v : Value} {L : List (List Int)} (h : OwnR (elOwn elInt 3 1) 32 1 w C (fun k => C ≤ k) v L) : TRows w C w.heap.size 32 3 v := by
  obtain ⟨A, c, e, hc1, hc2, hk⟩ := h.cells
  refine ⟨A, L.length, c, e, hc1, hc2, fun k hkl => ?_⟩
  obtain ⟨g, cs, e1, e2, e3, e4, e5, e6⟩ := hk k _ (List.getElem?_eq_getElem hkl)
  obtain ⟨u, hu, _⟩ := id e6
  rw [hu] at e6
  exact ⟨g, 0, cs, u, e1, e2, e3, e5, take_one hu, elOwn_trow elI_one e6 fun b hb => hb.1⟩
/-! ### The k-th of each, for the walk -/
section
variable {w : World} {base top : Nat} {T T' : TypeId} {A : Option Addr} {n : Nat}
theorem TFs.at_ (h : TFs w base top A n) {k : Nat} (hk : k < n) : ∃ g o P np cp Q nq cq, A = some ⟨g, o, none⟩ ∧ w.cell? ⟨g, o + k * 2, none⟩ = some (.slice P np cp) ∧ w.cell? ⟨g, o + k * 2 + 1, none⟩ = some (.slice Q nq cq) ∧ np ≤ cp ∧ cp ≤ 9223372036854775807 ∧ nq ≤ cq ∧ cq ≤ 9223372036854775807 ∧ TRows w base top 23 9 (.slice P np cp) ∧ Wr w base top 3 Q nq := by
  obtain ⟨g, o, cs, y, z, e1, _, _, e4, e5, e6, e7, e8⟩ := h k hk
  obtain ⟨P, np, cp, rfl, _⟩ := id e7
  obtain ⟨Q, nq, cq, rfl, q1, q2, q3⟩ := e8
  obtain ⟨_, _, _, e, p1, p2, _⟩ := id e7
  injection e with ea eb ec
  subst ea eb ec
  exact ⟨g, o, P, np, cp, Q, nq, cq, e1, (e4.cell _).trans e5, (e4.cell _).trans e6, p1, p2, q1, q2, e7, q3⟩
theorem TRows.at_ {c : Nat} (h : TRows w base top T T' (.slice A n c)) {k : Nat} (hk : k < n) : ∃ g o P np cp, A = some ⟨g, o, none⟩ ∧ w.cell? ⟨g, o + k, none⟩ = some (.slice P np cp) ∧ np ≤ cp ∧ cp ≤ 9223372036854775807 ∧ Wr w base top T' P np ∧ base ≤ g ∧ g < top ∧ ∃ cs, Block w g T cs := by
  obtain ⟨_, _, _, e, p1, p2, h4⟩ := h
  injection e with ea eb ec
  subst ea eb ec
  obtain ⟨g, o, cs, y, e1, e2, e3, e4, e5, P, np, cp, rfl, q1, q2, q3⟩ := h4 k hk
  exact ⟨g, o, P, np, cp, e1, (e4.cell _).trans e5, q1, q2, q3, e2, e3, cs, e4⟩
theorem Wr.at_ (h : Wr w base top T A n) {k : Nat} (hk : k < n) : ∃ g o u, A = some ⟨g, o, none⟩ ∧ w.cell? ⟨g, o + k, none⟩ = some u ∧ w.frozen? ⟨g, o + k, none⟩ = false ∧ base ≤ g ∧ g < top ∧ ∃ cs, Block w g T cs := by
  obtain ⟨g, o, cs, u, e1, e2, e3, e4, e5⟩ := h k hk
  exact ⟨g, o, u, e1, (e4.cell _).trans e5, e4.free _, e2, e3, cs, e4⟩
end
/-- While a is written over: b and l stay. -/
structure OwnSt (w0 : World) (C base top : Nat) (A : Option Addr) (n : Nat) (Ab : Option Addr) (nb cb : Nat) (Al : Option Addr) (nl cl : Nat) (L : List Fct) (w : World) : Prop where
  a : TFs w base top A n
  b : HasF w (fun k => top ≤ k) Ab nb cb L
  l : HasF w (fun k => k < base) Al nl cl L
  bel : Below C w0 w
theorem OwnSt.set_ {w0 w : World} {C base top : Nat} {A : Option Addr} {n : Nat} {Ab : Option Addr} {nb cb : Nat} {Al : Option Addr} {nl cl : Nat} {L : List Fct} (h : OwnSt w0 C base top A n Ab nb cb Al nl cl L w) (hC : C ≤ base) {S : TypeId} {g : Nat} {cs : Array Value} (hg : Block w g S cs) (h1 : base ≤ g) (h2 : g < top) (hS : S ≠ 35) (i : Nat) (u : Value) (hu : S ≠ 23 ∨ u = .slice none 0 0) :
    OwnSt w0 C base top A n Ab nb cb Al nl cl L (w.setCell ⟨g, i, none⟩ u) :=
  ⟨h.a.set_ hg hS i u hu, h.b.mv elFct_ok (Mv.set w g i u (by omega)), h.l.mv elFct_ok (Mv.set w g i u (by omega)), h.bel.setCell (p := ⟨g, i, none⟩) (Nat.le_trans hC h1) u⟩
/-- While v is written over: a and l stay. -/
structure OwnV (w0 : World) (C base mid lo top : Nat) (v : Value) (A : Option Addr) (n : Nat) (Al : Option Addr) (nl cl : Nat) (L : List Fct) (w : World) : Prop where
  v : TRows w lo top 32 3 v
  a : TFs w base mid A n
  l : HasF w (fun k => k < base) Al nl cl L
  bel : Below C w0 w
theorem OwnV.set_ {w0 w : World} {C base mid lo top : Nat} {v : Value} {A : Option Addr} {n : Nat} {Al : Option Addr} {nl cl : Nat} {L : List Fct} (h : OwnV w0 C base mid lo top v A n Al nl cl L w) (hC : C ≤ base) (hl : base ≤ lo) {g : Nat} {cs : Array Value} (hg : Block w g 3 cs) (h1 : lo ≤ g) (i : Nat) (u : Value) :
    OwnV w0 C base mid lo top v A n Al nl cl L (w.setCell ⟨g, i, none⟩ u) :=
  ⟨h.v.set_ hg i u (.inl (by decide)), h.a.set_ hg (by decide) i u (.inl (by decide)), h.l.mv elFct_ok (Mv.set w g i u (by omega)), h.bel.setCell (p := ⟨g, i, none⟩) (by show C ≤ g; omega) u⟩
theorem Block.other {w : World} {g b : Nat} {T T' : TypeId} {cs ds : Array Value} (h : Block w g T cs) (hb : Block w b T' ds) (hT : T' ≠ T) (i : Nat) (u : Value) : Block (w.setCell ⟨b, i, none⟩ u) g T cs :=
  h.elsewhere b i u fun e => by
    subst e
    exact hT (block_type hb h)
section
variable {w : World} {base top : Nat} {T T' : TypeId} {A : Option Addr} {n c : Nat}
theorem block_cs {g : Nat} {cs cs' : Array Value} (h : Block w g T cs) (h' : Block w g T cs') : cs = cs' := by
  have h1 : w.heap[g]? = some (.cells cs T (0, 0)) := h
  have h2 : w.heap[g]? = some (.cells cs' T (0, 0)) := h'
  rw [h1] at h2
  simp only [Option.some.injEq, Obj.cells.injEq] at h2
  exact h2.1
/-- The k-th fact: its block and its two slices. -/
theorem TFs.raw (h : TFs w base top A n) {k : Nat} (hk : k < n) : ∃ g o cs P np cp Q nq cq, A = some ⟨g, o, none⟩ ∧ Block w g 35 cs ∧ cs[o + k * 2]? = some (.slice P np cp) ∧ cs[o + k * 2 + 1]? = some (.slice Q nq cq) ∧ np ≤ cp ∧ cp ≤ 9223372036854775807 ∧ nq ≤ cq ∧ cq ≤ 9223372036854775807 := by
  obtain ⟨g, o, cs, y, z, e1, _, _, e4, e5, e6, ⟨P, np, cp, rfl, p1, p2, _⟩, ⟨Q, nq, cq, rfl, q1, q2, _⟩⟩ := h k hk
  exact ⟨g, o, cs, P, np, cp, Q, nq, cq, e1, e4, e5, e6, p1, p2, q1, q2⟩
theorem TFs.atB {g o : Nat} (h : TFs w base top (some ⟨g, o, none⟩) n) {k : Nat} (hk : k < n) {cs : Array Value} {y z : Value} (hb : Block w g 35 cs) (hy : cs[o + k * 2]? = some y) (hz : cs[o + k * 2 + 1]? = some z) : TRows w base top 23 9 y ∧ TRow w base top 3 z := by
  obtain ⟨g', o', cs', y', z', e1, _, _, e4, e5, e6, e7, e8⟩ := h k hk
  injection e1 with e1
  injection e1 with e1 e2
  subst e1 e2
  obtain rfl := block_cs hb e4
  rw [hy] at e5
  rw [hz] at e6
  obtain rfl := Option.some.inj e5
  obtain rfl := Option.some.inj e6
  exact ⟨e7, e8⟩
/-- The k-th row: its block and its slice. -/
theorem TRows.raw (h : TRows w base top T T' (.slice A n c)) {k : Nat} (hk : k < n) : ∃ g o cs P np cp, A = some ⟨g, o, none⟩ ∧ Block w g T cs ∧ cs[o + k]? = some (.slice P np cp) ∧ np ≤ cp ∧ cp ≤ 9223372036854775807 ∧ base ≤ g ∧ g < top := by
  obtain ⟨_, _, _, e, _, _, h4⟩ := h
  injection e with ea eb ec
  subst ea eb ec
  obtain ⟨g, o, cs, y, e1, e2, e3, e4, e5, P, np, cp, rfl, q1, q2, _⟩ := h4 k hk
  exact ⟨g, o, cs, P, np, cp, e1, e4, e5, q1, q2, e2, e3⟩
theorem TRows.atB {g o : Nat} (h : TRows w base top T T' (.slice (some ⟨g, o, none⟩) n c)) {k : Nat} (hk : k < n) {cs : Array Value} {y : Value} (hb : Block w g T cs) (hy : cs[o + k]? = some y) : TRow w base top T' y := by
  obtain ⟨_, _, _, e, _, _, h4⟩ := h
  injection e with ea eb ec
  subst ea eb ec
  obtain ⟨g', o', cs', y', e1, _, _, e4, e5, e6⟩ := h4 k hk
  injection e1 with e1
  injection e1 with e1 e2
  subst e1 e2
  obtain rfl := block_cs hb e4
  rw [hy] at e5
  obtain rfl := Option.some.inj e5
  exact e6
theorem TRow.wr {P : Option Addr} {np cp : Nat} (h : TRow w base top T (.slice P np cp)) : Wr w base top T P np := by
  obtain ⟨_, _, _, e, _, _, h4⟩ := h
  injection e with ea eb ec
  subst ea eb ec
  exact h4
end
end Go.Proofs.Ytfddaegepmdohaa
