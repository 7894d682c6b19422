/- BatchC, BatchL -/
import Derived.Test.YtfddaegepmdohaaGreatDoorJ26
import Derived.Deep.RegionHeld3
namespace Go.Proofs.YtfddaegepmdohaaGreatDoor
set_option maxRecDepth 100000
open Go.RowKit

theorem info_factS : (Tryz.prog.info? 48).map (·.size) = some 2 := by kernel_rfl
theorem two_is (A1 : Option Addr) (n1 c1 : Nat) (A2 : Option Addr) (n2 c2 : Nat) : ∀ u ∈ [Value.slice A1 n1 c1, Value.slice A2 n2 c2], u.oneCell' = true := by
  intro u hu
  simp at hu
  rcases hu with rfl | rfl <;> rfl
theorem OwnR.el0 {α : Type} {E : ElT α} {T : TypeId} {sz B : Nat} {w : World} {v : Value} {L : List α} (h : OwnR E T sz w B (fun k => B ≤ k) v L) : elOwn E T sz w (fun k => B ≤ k) [v] L :=
  ⟨v, rfl, h.low (Nat.zero_le _), fun k hk => (h.lt k hk).1⟩
/-- None of its lists is long. -/
def SmallF (f : Fct) : Prop := f.1.length ≤ 1000 ∧ (∀ p ∈ f.1, p.length ≤ 1000) ∧ f.2.length ≤ 1000
set_option maxRecDepth 100000 in
theorem valuesC_any {S : Nat → Prop} {A1 A2 : Option Addr} {n1 c1 n2 c2 : Nat} {q : List Int} {w : World} (h : Row elInt 1 w S A2 n2 c2 q) (hn : q.length ≤ 1000) :
    Calls Tryz.prog 45 #[.agg #[.slice A1 n1 c1, .slice A2 n2 c2]] w (Told elInt 3 1 w q) := by
  have hbx := below_a1 w (.cells #[.slice A1 n1 c1, .slice A2 n2 c2] 48)
  have hbl := Block.new w 48 #[.slice A1 n1 c1, .slice A2 n2 c2]
  have h1 := h.mv elInt_ok (Mv.alloc w (.cells #[.slice A1 n1 c1, .slice A2 n2 c2] 48) _)
  have HC := Lib.hid (ownI_any h1 (by have := h.len; omega))
  have hsz : w.heap.size ≤ (w.alloc (.cells #[.slice A1 n1 c1, .slice A2 n2 c2] 48)).heap.size := by simp
  clear h h1
  go_enter Tryz.func45, Tryz.ntmps45
  go_wp2_with fail
  generalize w.alloc (.cells #[.slice A1 n1 c1, .slice A2 n2 c2] 48) = W at hbl HC hbx hsz ⊢
  have k1 : W.cell? ⟨w.heap.size, 1, none⟩ = some (.slice A2 n2 c2) := hbl.cell 1
  clear hbl
  go_wp2_with fail
  refine HC.out.mono ?_
  rintro e w2 ⟨v, rfl, hO, hb⟩
  have hF := Lib.hid (show OwnR elInt 3 1 w2 w.heap.size (fun k => w.heap.size ≤ k) v q ∧ Below w.heap.size w w2 from ⟨(hO.to elInt_ok fun b hb _ => Nat.le_trans hsz hb).low hsz, hbx.trans (hb.mono hsz)⟩)
  clear hO hb HC
  go_wp2_with fail
  go_ret
  exact ⟨v, rfl, hF.out.1, hF.out.2⟩

set_option maxRecDepth 100000 in
set_option maxHeartbeats 2000000 in
theorem eachV_any {S : Nat → Prop} {A : Option Addr} {n c : Nat} {L : List Fct} {w : World} (h : HasF w S A n c L) (hn : n ≤ 1000) (hL : ∀ f ∈ L, SmallF f) :
    Calls Tryz.prog 44 #[.slice A n c, .func (.func 45) #[] #[]] w (Told (elOwn elInt 3 1) 46 1 w (L.map Prod.snd)) := by
  have HL := Lib.hid h.len
  have HP := Lib.hid hL
  have hnm := h.lenMax
  have HS : ∀ b, (S b ∧ b < w.heap.size) → b < w.heap.size := fun b hb => hb.2
  have h1 : HasF w (fun b => S b ∧ b < w.heap.size) A n c L := h.mv elFct_ok (Mv.to w fun b hb hl => ⟨hb, hl⟩)
  clear h hL
  go_enter Tryz.func44, Tryz.ntmps44
  go_wp2_with fail
  go_loopw [5, 10] (fun v i wr => ∃ k : Nat, k ≤ n ∧ i = .int .i64 k ∧ OwnR (elOwn elInt 3 1) 46 1 wr w.heap.size (fun b => w.heap.size ≤ b) v ((L.map Prod.snd).take k) ∧ Below w.heap.size w wr) (fun _ i _ => n - (intOf i).toNat)
  case atStart => exact ⟨0, Nat.zero_le _, rfl, OwnR.nil_ w _ _, Below.refl _ _⟩
  case round =>
    obtain ⟨k, hk, rfl, hO, hB⟩ := hrel
    by_cases hlt : k < n
    · obtain ⟨b, o, A1, n1, c1, A2, n2, c2, p, q, rfl, _, _, g0, g1, hp, hq, he⟩ := (h1.mv elFct_ok (Mv.below hB HS)).at2 hlt
      have i0 : (0 : Int) ≤ (k : Int) := by omega
      have i1 : (k : Int) < (n : Int) := by omega
      have hsm := HP.out (p, q) (List.mem_of_getElem? he.out)
      have hbx := below_a1 wr (.cells #[.slice A1 n1 c1, .slice A2 n2 c2] 48)
      have hbl := Block.new wr 48 #[.slice A1 n1 c1, .slice A2 n2 c2]
      have hp1 := hp.mv elPath_ok (Mv.alloc wr (.cells #[.slice A1 n1 c1, .slice A2 n2 c2] 48) _)
      have hq1 := hq.mv elInt_ok (Mv.alloc wr (.cells #[.slice A1 n1 c1, .slice A2 n2 c2] 48) _)
      have HC := Lib.hid (valuesC_any (A1 := A1) (n1 := n1) (c1 := c1) hq1 hsm.2.2)
      have HT := Lib.hid (take_snoc (show (L.map Prod.snd)[k]? = some q by rw [List.getElem?_map, he.out]; rfl))
      have hO1 := hO.below elValsO_ok hbx
      have hB1 := hB.trans (hbx.mono hB.size)
      have hlo := fun g e => hO1.lt g e
      have hlw := fun g e => hO.lt g e
      clear hp hq hsm hp1 hq1 hO hB hbx
      go_wp2_with fail
      generalize wr.alloc (.cells #[.slice A1 n1 c1, .slice A2 n2 c2] 48) = W at hO1 hB1 hbl HC hlo ⊢
      have k0 : W.cell? ⟨wr.heap.size, 0, none⟩ = some (.slice A1 n1 c1) := hbl.cell 0
      have k1 : W.cell? ⟨wr.heap.size, 1, none⟩ = some (.slice A2 n2 c2) := hbl.cell 1
      clear g0 g1 hbl
      go_wp2_with fail
      refine HC.out.mono ?_
      rintro e w5 ⟨y, rfl, hy, hb5⟩
      have hz1 := hB1.size
      have hy1 := OwnR.el elInt_ok hy (fun g e => (hlo g e).2) hz1
      have hO5 := hO1.below elValsO_ok hb5
      have hB5 := hB1.trans (hb5.mono hz1)
      have hz5 := hB5.size
      obtain ⟨Ay, cy, rfl⟩ := hy.shape
      have hO6 := hO5.alloc elValsO_ok (.cells #[.slice Ay q.length cy] 46)
      have hy6 := elValsO_ok _ _ _ _ _ _ (Mv.alloc w5 (.cells #[.slice Ay q.length cy] 46) _) hy1
      have hone := ownOne_is hy1
      have hlb : Hid (((L.map Prod.snd).take k).length ≤ 1000000) := Lib.hid (Nat.le_trans (List.length_take_le k _) (by omega))
      have hB6 := hB5.alloc hz5 (.cells #[.slice Ay q.length cy] 46)
      have hbs : w.heap.size ≤ (w5.alloc (.cells #[.slice Ay q.length cy] 46)).heap.size := by rw [World.size_alloc]; omega
      clear hy hy1 hO5 hB5 hb5
      clear hO1 hB1 HC k0 k1
      go_wp2_with (at_builtin; refine wpList_appX elValsO_ok rfl _ _ rfl info_rowI Tryz.underlying65 rfl (by decide) w.heap.size _ _ _ rfl hO6 _ rfl [.slice Ay q.length cy] rfl q (cell_litX w5 _ _) hone hy6 hlb.out hbs ?_)
      intro v' w2 hO2 hG2
      have hF := Lib.hid (show OwnR (elOwn elInt 3 1) 46 1 w2 w.heap.size (fun b => w.heap.size ≤ b) v' ((L.map Prod.snd).take (k + 1)) ∧ Below w.heap.size w w2 from ⟨HT.out ▸ hO2, hB6.trans (hG2.below_ hbs (fun g e => (hlo g e).1))⟩)
      clear hO2 hG2 hO6 hy6 hB6 hlo hlw hone
      go_wp2_with fail
      go_roundw
      case rel => exact ⟨k + 1, by omega, by go_num, hF.out.1, hF.out.2⟩
      case measure => simp [intOf]; omega
    · have hF := Lib.hid (show OwnR (elOwn elInt 3 1) 46 1 wr w.heap.size (fun b => w.heap.size ≤ b) u5 (L.map Prod.snd) ∧ Below w.heap.size w wr from ⟨by rw [List.take_of_length_le (by have := HL.out; simp; omega)] at hO; exact hO, hB⟩)
      clear hO hB
      go_wp2_with fail
      go_ret
      exact ⟨u5, rfl, hF.out.1, hF.out.2⟩

set_option maxRecDepth 100000 in
/-- Values. -/
theorem values_any {S : Nat → Prop} {A : Option Addr} {n c : Nat} {L : List Fct} {w : World} (h : HasF w S A n c L) (hn : n ≤ 1000) (hL : ∀ f ∈ L, SmallF f) :
    Calls Tryz.prog 32 #[.slice A n c] w (Told (elOwn elInt 3 1) 46 1 w (L.map Prod.snd)) := by
  have HC := Lib.hid (eachV_any h hn hL)
  clear h hn hL
  go_enter Tryz.func32, Tryz.ntmps32
  go_wp2_with fail
  refine HC.out.mono ?_
  rintro e w2 ⟨v, rfl, hO, hb⟩
  have hF := Lib.hid (And.intro hO hb)
  clear hO hb HC
  go_wp2_with fail
  go_ret
  exact ⟨v, rfl, hF.out.1, hF.out.2⟩

/-- What Copy's closure tells. -/
def TellF (w : World) (f : Fct) (e : Ending) (w' : World) : Prop :=
  ∃ A1 n1 c1 A2 n2 c2, e = .returned (.agg #[.slice A1 n1 c1, .slice A2 n2 c2]) ∧ elFctO w' (fun k => w.heap.size ≤ k) [.slice A1 n1 c1, .slice A2 n2 c2] f ∧ Below w.heap.size w w'
end Go.Proofs.YtfddaegepmdohaaGreatDoor
namespace Go.Proofs.YtfddaegepmdohaaGreatDoor
set_option maxRecDepth 100000
open Go.RowKit

def fewF (L : List Fct) : List Fct := (L.take 10).map fun f => ((f.1.map (fun x => x.take 5)).take 5, f.2.take 5)
theorem one_sl (A : Option Addr) (n c : Nat) : ∀ u ∈ [Value.slice A n c], u.oneCell' = true := by
  intro u hu
  simp at hu
  subst hu
  rfl
theorem take_map_snoc {α β : Type} {f : α → β} {L : List α} {k : Nat} {x : α} (h : L[k]? = some x) : (L.take k).map f ++ [f x] = (L.take (k + 1)).map f := by
  rw [← take_snoc h, List.map_append]; rfl
theorem OwnR.set_ {α : Type} {E : ElT α} {w : World} {S : Nat → Prop} {sz base : Nat} {T : TypeId} {v : Value} {L : List α} (h : OwnR E T sz w base S v L) (hE : E.Ok) {g i : Nat} {u : Value} (hv : v.ownBlock ≠ some g) (hS : ¬ S g) : OwnR E T sz (w.setCell ⟨g, i, none⟩ u) base S v L :=
  h.grown hE (r := g) ⟨rfl, rfl, rfl, by simp [World.setCell], fun k _ hk => by
    simp [World.setCell, Array.getElem?_modify]
    intro e; exact absurd (congrArg some e.symm) hk⟩ hv hS
theorem fewF_snoc {L : List Fct} {k : Nat} {p P5 : List (List Txt)} {q : List Int} (h : L[k]? = some (p, q)) (hk : k < 10) (hP : p.map (fun x => x.take 5) = P5) : fewF (L.take k) ++ [(P5.take 5, q.take 5)] = fewF (L.take (k + 1)) := by
  subst hP
  unfold fewF
  rw [List.take_take, List.take_take, Nat.min_eq_right (by omega), Nat.min_eq_right (by omega), ← take_snoc h, List.map_append]
  rfl
theorem fewF_all {L : List Fct} {k : Nat} (h : L.length ≤ k ∨ 10 ≤ k) : fewF (L.take k) = fewF L := by
  unfold fewF
  rw [List.take_take]
  by_cases h10 : 10 ≤ k
  · rw [Nat.min_eq_left h10]
  · rw [List.take_of_length_le (show L.length ≤ min 10 k by omega), List.take_of_length_le (show L.length ≤ 10 by omega)]
theorem fewF_small {L : List Fct} : (fewF L).length ≤ 10 ∧ ∀ f ∈ fewF L, SmallF f := by
  unfold fewF
  refine ⟨by simp; omega, fun f hf => ?_⟩
  obtain ⟨g, _, rfl⟩ := List.mem_map.1 hf
  refine ⟨by simp; omega, fun p hp => ?_, by simp; omega⟩
  obtain ⟨x, _, rfl⟩ := List.mem_map.1 (List.mem_of_mem_take hp)
  simp; omega
theorem fewF_in {L : List Fct} (h : ∀ f ∈ L, FctIn f) : ∀ f ∈ fewF L, FctIn f := by
  intro f hf
  obtain ⟨g, hg, rfl⟩ := List.mem_map.1 hf
  have h1 := h g (List.mem_of_mem_take hg)
  refine ⟨fun p hp => ?_, fun x hx => h1.2 x (List.mem_of_mem_take hx)⟩
  obtain ⟨x, hx, rfl⟩ := List.mem_map.1 (List.mem_of_mem_take hp)
  exact fun s hs => h1.1 x hx s (List.mem_of_mem_take hs)
set_option maxRecDepth 100000 in
set_option maxHeartbeats 4000000 in
theorem few_any {S : Nat → Prop} {A : Option Addr} {n c : Nat} {L : List Fct} {w : World} (h : HasF w S A n c L) :
    Calls Tryz.prog 14 #[.slice A n c] w fun e w' => ∃ A' n' c', e = .returned (.slice A' n' c') ∧ HasF w' (fun b => b < w'.heap.size) A' n' c' (fewF L) ∧ Below w.heap.size w w' := by
  have hlm := h.lenMax
  have HL := Lib.hid h.len
  have h1 : HasF w (fun b => S b ∧ b < w.heap.size) A n c L := h.mv elFct_ok (Mv.to w fun b hb hl => ⟨hb, hl⟩)
  have HS : ∀ b, (S b ∧ b < w.heap.size) → b < w.heap.size := fun b hb => hb.2
  clear h
  go_enter Tryz.func14, Tryz.ntmps14
  go_wp2_with fail
  go_loopw [3, 4] (fun v i wr => ∃ k : Nat, k ≤ n ∧ k ≤ 10 ∧ i = .int .i64 k ∧ OwnR elFct 48 2 wr w.heap.size (fun _ => True) v (fewF (L.take k)) ∧ Below w.heap.size w wr) (fun _ i _ => n - (intOf i).toNat)
  case atStart => exact ⟨0, Nat.zero_le _, Nat.zero_le _, rfl, OwnR.nil_ w _ _, Below.refl _ _⟩
  case round =>
    obtain ⟨k, hk, hk10, rfl, hO, hBr⟩ := hrel
    by_cases hgo : k < n ∧ k < 10
    · obtain ⟨hlt, hlt10⟩ := hgo
      obtain ⟨b, o, A1, n1, c1, A2, n2, c2, p, q, rfl, hbS, _, g0, g1, hp, hq, he⟩ := h1.at2 hlt
      have hbl := hbS.2
      have i0 : (0 : Int) ≤ (k : Int) := by omega
      have i1 : (k : Int) < (n : Int) := by omega
      have hd1 : decide ((k : Int) < 10) = true := decide_eq_true (by omega)
      have KC : Hid (∀ y, Below wr.heap.size wr y → y.cell? ⟨b, o + k * 2, none⟩ = some (.slice A1 n1 c1) ∧ y.cell? ⟨b, o + k * 2 + 1, none⟩ = some (.slice A2 n2 c2)) := Lib.hid fun y hy => by
        have hy := hBr.trans (hy.mono hBr.size)
        exact ⟨(hy.cell (p := ⟨b, o + k * 2, none⟩) hbl).trans g0, (hy.cell (p := ⟨b, o + k * 2 + 1, none⟩) hbl).trans g1⟩
      have KP : Hid (∀ y, Below wr.heap.size wr y → Row (elRow elText 1) 1 y (fun b => S b ∧ b < w.heap.size) A1 n1 c1 p ∧ Row elInt 1 y (fun b => S b ∧ b < w.heap.size) A2 n2 c2 q) := Lib.hid fun y hy => by
        have hy := hBr.trans (hy.mono hBr.size)
        exact ⟨hp.mv elPath_ok (Mv.below hy HS), hq.mv elInt_ok (Mv.below hy HS)⟩
      have HL1 := Lib.hid hp.len
      have HL2 := Lib.hid hq.len
      obtain ⟨P5, hP5⟩ : ∃ P5, Hid (p.map (fun x => x.take 5) = P5) := ⟨_, Lib.hid rfl⟩
      have hnm1 := hp.lenMax
      have hnm2 := hq.lenMax
      have hcp2 := hq.cap
      have hcm2 := hq.capMax
      have hbx := below_a1 wr (.cells #[.slice none 0 0, .slice none 0 0] 48)
      have hbf := Block.new wr 48 #[.slice none 0 0, .slice none 0 0]
      have HWZ := Lib.hid hBr.size
      have hsz : (wr.alloc (.cells #[.slice none 0 0, .slice none 0 0] 48)).heap.size = wr.heap.size + 1 := by simp
      have hPn : OwnR (elRow elText 1) 50 1 (wr.alloc (.cells #[.slice none 0 0, .slice none 0 0] 48)) (wr.heap.size + 1) (fun b => S b ∧ b < w.heap.size) (.slice none 0 0) (P5.take 0) := OwnR.nil_ _ _ _
      clear g0 g1 hp hq hsz
      go_wp2_with fail
      generalize wr.alloc (.cells #[.slice none 0 0, .slice none 0 0] 48) = W at hbx hbf hPn ⊢
      obtain ⟨wb, rfl⟩ : ∃ wb, wb = wr := ⟨_, rfl⟩
      go_loopw [6] (fun j wi => ∃ (t : Nat) (vp : Value), t ≤ n1 ∧ t ≤ 5 ∧ j = .int .i64 t ∧ Below wb.heap.size wb wi ∧ Block wi wb.heap.size 48 #[vp, .slice none 0 0] ∧ OwnR (elRow elText 1) 50 1 wi (wb.heap.size + 1) (fun b => S b ∧ b < w.heap.size) vp (P5.take t)) (fun j _ => n1 - (intOf j).toNat)
      case atStart => exact ⟨0, .slice none 0 0, Nat.zero_le _, Nat.zero_le _, rfl, hbx, hbf, hPn⟩
      case round =>
        clear hbx hbf hPn
        obtain ⟨j, vp, hj, hj5, rfl, hB, hblk, hP⟩ := hrel
        obtain ⟨f0, f1⟩ := KC.out wr hB
        have k0 : wr.cell? ⟨wb.heap.size, 0, none⟩ = some vp := hblk.cell 0
        by_cases hgo2 : j < n1 ∧ j < 5
        · obtain ⟨hlj, hlj5⟩ := hgo2
          obtain ⟨b', o', A', n', c', x, rfl, _, _, t0, hx, hxe⟩ := (KP.out wr hB).1.at1 hlj
          have i2 : (0 : Int) ≤ (j : Int) := by omega
          have i3 : (j : Int) < (n1 : Int) := by omega
          have hd2 : decide ((j : Int) < 5) = true := decide_eq_true (by omega)
          have hxl := hx.len
          have hxm := hx.lenMax
          have hxc := hx.cap
          have hxcm := hx.capMax
          by_cases h5 : (5 : Int) < (n' : Int)
          · have hc5 : (5 : Int) ≤ (c' : Int) := by omega
            have hrow : Row elText 1 wr (fun b => S b ∧ b < w.heap.size) A' 5 c' (x.take 5) := hx.take_ (by omega)
            have hP1 := hP.alloc elPath_ok (.cells #[.slice A' 5 c'] 50)
            have hblk1 := hblk.alloc (.cells #[.slice A' 5 c'] 50)
            have hB1 := hB.trans ((below_a1 wr (.cells #[.slice A' 5 c'] 50)).mono hB.size)
            have hlb : Hid ((P5.take j).length ≤ 1000000) := Lib.hid (Nat.le_trans (List.length_take_le j _) (by omega))
            have hlo := fun g e => hP1.lt g e
            have hel : elRow elText 1 (wr.alloc (.cells #[.slice A' 5 c'] 50)) (fun b => (S b ∧ b < w.heap.size) ∧ vp.ownBlock ≠ some b) [.slice A' 5 c'] (x.take 5) :=
              elPath_ok _ _ _ _ _ _ (Mv.alloc wr _ _) ⟨A', 5, c', rfl, hrow.mv elText_ok (Mv.to wr fun b hb _ => ⟨hb, fun e => by have := (hlo b e).1; have := hb.2; have := HWZ.out; omega⟩)⟩
            have hbs : wb.heap.size + 1 ≤ (wr.alloc (.cells #[.slice A' 5 c'] 50)).heap.size := by rw [World.size_alloc]; have := hblk.lt; omega
            have HT := Lib.hid (take_snoc (show P5[j]? = some (x.take 5) by rw [← hP5.out, List.getElem?_map, hxe.out]; rfl))
            have k1 : (wr.alloc (.cells #[.slice A' 5 c'] 50)).cell? ⟨wb.heap.size, 0, none⟩ = some vp := hblk1.cell 0
            clear hP hblk hB hrow hx
            go_wp2_with (at_builtin; refine wpList_appX elPath_ok rfl _ _ rfl info_rowT Tryz.underlying45 rfl (by decide) (wb.heap.size + 1) _ _ _ rfl hP1 _ rfl [.slice A' 5 c'] rfl (x.take 5) (cell_litX wr _ _) (one_sl A' 5 c') hel hlb.out hbs ?_)
            intro v' w2 hP2 hG2
            rw [HT.out] at hP2
            obtain ⟨Av, nv, cv, rfl⟩ : ∃ A n c, v' = .slice A n c := by
              obtain ⟨A, c, e⟩ := hP2.shape
              exact ⟨A, _, c, e⟩
            have hbn := hblk1.grown hG2.1 (fun e => by have := (hlo _ e).1; omega)
            have d0 : w2.cell? ⟨wb.heap.size, 0, none⟩ = some vp := hbn.cell 0
            have d1 := hbn.free 0
            have hF := Lib.hid (show Below wb.heap.size wb (w2.setCell ⟨wb.heap.size, 0, none⟩ (.slice Av nv cv)) ∧ Block (w2.setCell ⟨wb.heap.size, 0, none⟩ (.slice Av nv cv)) wb.heap.size 48 #[.slice Av nv cv, .slice none 0 0] ∧ OwnR (elRow elText 1) 50 1 (w2.setCell ⟨wb.heap.size, 0, none⟩ (.slice Av nv cv)) (wb.heap.size + 1) (fun b => S b ∧ b < w.heap.size) (.slice Av nv cv) (P5.take (j + 1)) from
              ⟨(hB1.trans (hG2.below_ hB1.size (fun g e => by have := (hlo g e).1; omega))).setCell (p := ⟨wb.heap.size, 0, none⟩) (Nat.le_refl _) (.slice Av nv cv), hbn.set_ 0 (.slice Av nv cv), hP2.set_ elPath_ok (fun e => by have := (hP2.lt _ e).1; omega) (fun h => by have := h.2; have := HWZ.out; omega)⟩)
            clear hP1 hP2 hG2 hbn hB1 hblk1 hlo hel k1
            go_wp2_with fail
            go_roundw
            case rel => exact ⟨j + 1, .slice Av nv cv, by omega, by omega, by go_num, hF.out⟩
            case measure => simp [intOf]; omega
          · have hrow : Row elText 1 wr (fun b => S b ∧ b < w.heap.size) A' n' c' (x.take 5) := by rw [List.take_of_length_le (by omega)]; exact hx
            have hP1 := hP.alloc elPath_ok (.cells #[.slice A' n' c'] 50)
            have hblk1 := hblk.alloc (.cells #[.slice A' n' c'] 50)
            have hB1 := hB.trans ((below_a1 wr (.cells #[.slice A' n' c'] 50)).mono hB.size)
            have hlb : Hid ((P5.take j).length ≤ 1000000) := Lib.hid (Nat.le_trans (List.length_take_le j _) (by omega))
            have hlo := fun g e => hP1.lt g e
            have hel : elRow elText 1 (wr.alloc (.cells #[.slice A' n' c'] 50)) (fun b => (S b ∧ b < w.heap.size) ∧ vp.ownBlock ≠ some b) [.slice A' n' c'] (x.take 5) :=
              elPath_ok _ _ _ _ _ _ (Mv.alloc wr _ _) ⟨A', n', c', rfl, hrow.mv elText_ok (Mv.to wr fun b hb _ => ⟨hb, fun e => by have := (hlo b e).1; have := hb.2; have := HWZ.out; omega⟩)⟩
            have hbs : wb.heap.size + 1 ≤ (wr.alloc (.cells #[.slice A' n' c'] 50)).heap.size := by rw [World.size_alloc]; have := hblk.lt; omega
            have HT := Lib.hid (take_snoc (show P5[j]? = some (x.take 5) by rw [← hP5.out, List.getElem?_map, hxe.out]; rfl))
            have k1 : (wr.alloc (.cells #[.slice A' n' c'] 50)).cell? ⟨wb.heap.size, 0, none⟩ = some vp := hblk1.cell 0
            clear hP hblk hB hrow hx
            go_wp2_with (at_builtin; refine wpList_appX elPath_ok rfl _ _ rfl info_rowT Tryz.underlying45 rfl (by decide) (wb.heap.size + 1) _ _ _ rfl hP1 _ rfl [.slice A' n' c'] rfl (x.take 5) (cell_litX wr _ _) (one_sl A' n' c') hel hlb.out hbs ?_)
            intro v' w2 hP2 hG2
            rw [HT.out] at hP2
            obtain ⟨Av, nv, cv, rfl⟩ : ∃ A n c, v' = .slice A n c := by
              obtain ⟨A, c, e⟩ := hP2.shape
              exact ⟨A, _, c, e⟩
            have hbn := hblk1.grown hG2.1 (fun e => by have := (hlo _ e).1; omega)
            have d0 : w2.cell? ⟨wb.heap.size, 0, none⟩ = some vp := hbn.cell 0
            have d1 := hbn.free 0
            have hF := Lib.hid (show Below wb.heap.size wb (w2.setCell ⟨wb.heap.size, 0, none⟩ (.slice Av nv cv)) ∧ Block (w2.setCell ⟨wb.heap.size, 0, none⟩ (.slice Av nv cv)) wb.heap.size 48 #[.slice Av nv cv, .slice none 0 0] ∧ OwnR (elRow elText 1) 50 1 (w2.setCell ⟨wb.heap.size, 0, none⟩ (.slice Av nv cv)) (wb.heap.size + 1) (fun b => S b ∧ b < w.heap.size) (.slice Av nv cv) (P5.take (j + 1)) from
              ⟨(hB1.trans (hG2.below_ hB1.size (fun g e => by have := (hlo g e).1; omega))).setCell (p := ⟨wb.heap.size, 0, none⟩) (Nat.le_refl _) (.slice Av nv cv), hbn.set_ 0 (.slice Av nv cv), hP2.set_ elPath_ok (fun e => by have := (hP2.lt _ e).1; omega) (fun h => by have := h.2; have := HWZ.out; omega)⟩)
            clear hP1 hP2 hG2 hbn hB1 hblk1 hlo hel k1
            go_wp2_with fail
            go_roundw
            case rel => exact ⟨j + 1, .slice Av nv cv, by omega, by omega, by go_num, hF.out⟩
            case measure => simp [intOf]; omega
        · have HP5 : Hid (P5.take j = P5.take 5) := Lib.hid (by
            have h5 : P5.length = n1 := by rw [← hP5.out, List.length_map]; exact HL1.out
            by_cases h : j < n1
            · congr 1; omega
            · rw [List.take_of_length_le (by omega), List.take_of_length_le (by omega)])
          obtain ⟨Av, nv, cv, rfl, hpr⟩ : ∃ A n c, vp = .slice A n c ∧ Row (elRow elText 1) 1 wr (fun b => (S b ∧ b < w.heap.size) ∨ wb.heap.size + 1 ≤ b) A n c (P5.take j) := by
            obtain ⟨A, c, e, h⟩ := hP.read elPath_ok
            exact ⟨A, _, c, e, h.mv elPath_ok (Mv.to wr fun b hb _ => hb.imp id And.left)⟩
          rw [HP5.out] at hpr
          have z1 : wr.cell? ⟨wb.heap.size, 1, none⟩ = some (.slice none 0 0) := hblk.cell 1
          have z2 := hblk.free 1
          have hqr := (KP.out wr hB).2
          have s1 := hblk.set_ 1 (.slice A2 n2 c2)
          have s3 := s1.free 1
          have s4 : (wr.setCell ⟨wb.heap.size, 1, none⟩ (.slice A2 n2 c2)).cell? ⟨wb.heap.size, 1, none⟩ = some (.slice A2 n2 c2) := s1.cell 1
          have hd2 : j < n1 → decide ((j : Int) < 5) = false := fun h => decide_eq_false (by omega)
          by_cases h5 : (5 : Int) < (n2 : Int)
          · have hc5 : (5 : Int) ≤ (c2 : Int) := by omega
            have s5 := s1.set_ 1 (.slice A2 5 c2)

            have hb8 : Below wb.heap.size wb ((wr.setCell ⟨wb.heap.size, 1, none⟩ (.slice A2 n2 c2)).setCell ⟨wb.heap.size, 1, none⟩ (.slice A2 5 c2)) := (hB.setCell (p := ⟨wb.heap.size, 1, none⟩) (Nat.le_refl _) (.slice A2 n2 c2)).setCell (p := ⟨wb.heap.size, 1, none⟩) (Nat.le_refl _) (.slice A2 5 c2)
            have hk8 : Block ((wr.setCell ⟨wb.heap.size, 1, none⟩ (.slice A2 n2 c2)).setCell ⟨wb.heap.size, 1, none⟩ (.slice A2 5 c2)) wb.heap.size 48 #[.slice Av nv cv, .slice A2 5 c2] := s5
            have hmX : ∀ (T : Nat → Prop), ¬ T wb.heap.size → Mv wr T ((wr.setCell ⟨wb.heap.size, 1, none⟩ (.slice A2 n2 c2)).setCell ⟨wb.heap.size, 1, none⟩ (.slice A2 5 c2)) T := fun T hT => Mv.trans (Mv.set wr wb.heap.size 1 (.slice A2 n2 c2) hT) (Mv.set (wr.setCell ⟨wb.heap.size, 1, none⟩ (.slice A2 n2 c2)) wb.heap.size 1 (.slice A2 5 c2) hT)
            have hlo0 := fun g e => hO.lt g e
            have hel0 : elFct ((wr.setCell ⟨wb.heap.size, 1, none⟩ (.slice A2 n2 c2)).setCell ⟨wb.heap.size, 1, none⟩ (.slice A2 5 c2)) (fun b => True ∧ u3.ownBlock ≠ some b) [.slice Av nv cv, .slice A2 5 c2] (P5.take 5, q.take 5) :=
              ⟨⟨Av, nv, cv, rfl, hpr.mv elPath_ok (Mv.trans (hmX _ (fun hb => by
                  rcases hb with hb | hb
                  · have := hb.2; have := HWZ.out; omega
                  · omega)) (Mv.to _ fun b hb _ => ⟨trivial, fun e => by
                    have h1 := hlo0 b e
                    rcases hb with hb | hb
                    · have := hb.2; omega
                    · omega⟩))⟩,
               ⟨A2, 5, c2, rfl, (show Row elInt 1 wr (fun b => S b ∧ b < w.heap.size) A2 5 c2 (q.take 5) from hqr.take_ (by omega)).mv elInt_ok (Mv.trans (hmX _ (fun hb => by
                  have := hb.2; have := HWZ.out; omega)) (Mv.to _ fun b hb _ => ⟨trivial, fun e => by
                    have h1 := hlo0 b e
                    have := hb.2; omega⟩))⟩⟩
            have hO8 := hO.below elFct_ok hb8
            have hBW := Lib.hid (hBr.trans (hb8.mono HWZ.out))
            have e0 : ((wr.setCell ⟨wb.heap.size, 1, none⟩ (.slice A2 n2 c2)).setCell ⟨wb.heap.size, 1, none⟩ (.slice A2 5 c2)).cell? ⟨wb.heap.size, 0, none⟩ = some (.slice Av nv cv) := hk8.cell 0
            have e1 : ((wr.setCell ⟨wb.heap.size, 1, none⟩ (.slice A2 n2 c2)).setCell ⟨wb.heap.size, 1, none⟩ (.slice A2 5 c2)).cell? ⟨wb.heap.size, 1, none⟩ = some (.slice A2 5 c2) := hk8.cell 1
            clear hpr hP hk8 hO hmX
            have hO9 := hO8.alloc elFct_ok (.cells #[.slice Av nv cv, .slice A2 5 c2] 48)
            have hel := elFct_ok _ _ _ _ _ _ (Mv.alloc ((wr.setCell ⟨wb.heap.size, 1, none⟩ (.slice A2 n2 c2)).setCell ⟨wb.heap.size, 1, none⟩ (.slice A2 5 c2)) (.cells #[.slice Av nv cv, .slice A2 5 c2] 48) _) hel0
            have hbs : w.heap.size ≤ (((wr.setCell ⟨wb.heap.size, 1, none⟩ (.slice A2 n2 c2)).setCell ⟨wb.heap.size, 1, none⟩ (.slice A2 5 c2)).alloc (.cells #[.slice Av nv cv, .slice A2 5 c2] 48)).heap.size := by rw [World.size_alloc]; have := hBW.out.size; omega
            have hlb : Hid ((fewF (L.take k)).length ≤ 1000000) := Lib.hid (Nat.le_trans (fewF_small).1 (by decide))
            have hB9 := Lib.hid (hBW.out.trans ((below_a1 ((wr.setCell ⟨wb.heap.size, 1, none⟩ (.slice A2 n2 c2)).setCell ⟨wb.heap.size, 1, none⟩ (.slice A2 5 c2)) (.cells #[.slice Av nv cv, .slice A2 5 c2] 48)).mono hBW.out.size))
            have HT := Lib.hid (fewF_snoc he.out hlt10 hP5.out)
            clear hel0 hO8 hb8
            go_wp2_with (at_builtin; refine wpList_appX elFct_ok rfl _ _ rfl info_fact Tryz.underlying29 rfl (by decide) w.heap.size _ u3 _ rfl hO9 _ rfl [.slice Av nv cv, .slice A2 5 c2] rfl (P5.take 5, q.take 5) (cell_two_d ((wr.setCell ⟨wb.heap.size, 1, none⟩ (.slice A2 n2 c2)).setCell ⟨wb.heap.size, 1, none⟩ (.slice A2 5 c2)) _ _ _ _ (by simp [World.setCell])) (two_is _ _ _ _ _ _) hel hlb.out hbs ?_)
            all_goals
              intro v' w2 hO2 hG2
              have hF := Lib.hid (show OwnR elFct 48 2 w2 w.heap.size (fun _ => True) v' (fewF (L.take (k + 1))) ∧ Below w.heap.size w w2 from ⟨HT.out ▸ hO2, hB9.out.trans (hG2.below_ hbs (fun g e => (hlo0 g e).1))⟩)
              clear hO9 hel hO2 hG2 e0 e1 hlo0
              go_wp2_with fail
              go_roundw
              case rel => exact ⟨k + 1, by omega, by omega, by go_num, hF.out⟩
              case measure => simp [intOf]; omega
          · have hb8 : Below wb.heap.size wb (wr.setCell ⟨wb.heap.size, 1, none⟩ (.slice A2 n2 c2)) := hB.setCell (p := ⟨wb.heap.size, 1, none⟩) (Nat.le_refl _) (.slice A2 n2 c2)
            have hk8 : Block (wr.setCell ⟨wb.heap.size, 1, none⟩ (.slice A2 n2 c2)) wb.heap.size 48 #[.slice Av nv cv, .slice A2 n2 c2] := s1
            have hmX : ∀ (T : Nat → Prop), ¬ T wb.heap.size → Mv wr T (wr.setCell ⟨wb.heap.size, 1, none⟩ (.slice A2 n2 c2)) T := fun T hT => Mv.set wr wb.heap.size 1 (.slice A2 n2 c2) hT
            have hlo0 := fun g e => hO.lt g e
            have hel0 : elFct (wr.setCell ⟨wb.heap.size, 1, none⟩ (.slice A2 n2 c2)) (fun b => True ∧ u3.ownBlock ≠ some b) [.slice Av nv cv, .slice A2 n2 c2] (P5.take 5, q.take 5) :=
              ⟨⟨Av, nv, cv, rfl, hpr.mv elPath_ok (Mv.trans (hmX _ (fun hb => by
                  rcases hb with hb | hb
                  · have := hb.2; have := HWZ.out; omega
                  · omega)) (Mv.to _ fun b hb _ => ⟨trivial, fun e => by
                    have h1 := hlo0 b e
                    rcases hb with hb | hb
                    · have := hb.2; omega
                    · omega⟩))⟩,
               ⟨A2, n2, c2, rfl, (show Row elInt 1 wr (fun b => S b ∧ b < w.heap.size) A2 n2 c2 (q.take 5) from by rw [List.take_of_length_le (by have := HL2.out; omega)]; exact hqr).mv elInt_ok (Mv.trans (hmX _ (fun hb => by
                  have := hb.2; have := HWZ.out; omega)) (Mv.to _ fun b hb _ => ⟨trivial, fun e => by
                    have h1 := hlo0 b e
                    have := hb.2; omega⟩))⟩⟩
            have hO8 := hO.below elFct_ok hb8
            have hBW := Lib.hid (hBr.trans (hb8.mono HWZ.out))
            have e0 : (wr.setCell ⟨wb.heap.size, 1, none⟩ (.slice A2 n2 c2)).cell? ⟨wb.heap.size, 0, none⟩ = some (.slice Av nv cv) := hk8.cell 0
            have e1 : (wr.setCell ⟨wb.heap.size, 1, none⟩ (.slice A2 n2 c2)).cell? ⟨wb.heap.size, 1, none⟩ = some (.slice A2 n2 c2) := hk8.cell 1
            clear hpr hP hk8 hO hmX
            have hO9 := hO8.alloc elFct_ok (.cells #[.slice Av nv cv, .slice A2 n2 c2] 48)
            have hel := elFct_ok _ _ _ _ _ _ (Mv.alloc (wr.setCell ⟨wb.heap.size, 1, none⟩ (.slice A2 n2 c2)) (.cells #[.slice Av nv cv, .slice A2 n2 c2] 48) _) hel0
            have hbs : w.heap.size ≤ ((wr.setCell ⟨wb.heap.size, 1, none⟩ (.slice A2 n2 c2)).alloc (.cells #[.slice Av nv cv, .slice A2 n2 c2] 48)).heap.size := by rw [World.size_alloc]; have := hBW.out.size; omega
            have hlb : Hid ((fewF (L.take k)).length ≤ 1000000) := Lib.hid (Nat.le_trans (fewF_small).1 (by decide))
            have hB9 := Lib.hid (hBW.out.trans ((below_a1 (wr.setCell ⟨wb.heap.size, 1, none⟩ (.slice A2 n2 c2)) (.cells #[.slice Av nv cv, .slice A2 n2 c2] 48)).mono hBW.out.size))
            have HT := Lib.hid (fewF_snoc he.out hlt10 hP5.out)
            clear hel0 hO8 hb8
            go_wp2_with (at_builtin; refine wpList_appX elFct_ok rfl _ _ rfl info_fact Tryz.underlying29 rfl (by decide) w.heap.size _ u3 _ rfl hO9 _ rfl [.slice Av nv cv, .slice A2 n2 c2] rfl (P5.take 5, q.take 5) (cell_two_d (wr.setCell ⟨wb.heap.size, 1, none⟩ (.slice A2 n2 c2)) _ _ _ _ (by simp [World.setCell])) (two_is _ _ _ _ _ _) hel hlb.out hbs ?_)
            all_goals
              intro v' w2 hO2 hG2
              have hF := Lib.hid (show OwnR elFct 48 2 w2 w.heap.size (fun _ => True) v' (fewF (L.take (k + 1))) ∧ Below w.heap.size w w2 from ⟨HT.out ▸ hO2, hB9.out.trans (hG2.below_ hbs (fun g e => (hlo0 g e).1))⟩)
              clear hO9 hel hO2 hG2 e0 e1 hlo0
              go_wp2_with fail
              go_roundw
              case rel => exact ⟨k + 1, by omega, by omega, by go_num, hF.out⟩
              case measure => simp [intOf]; omega
    · have HX := Lib.hid (fewF_all (L := L) (k := k) (by have := HL.out; omega))
      obtain ⟨Av, nv, cv, rfl, hr⟩ : ∃ A n c, u3 = .slice A n c ∧ HasF wr (fun b => b < wr.heap.size) A n c (fewF (L.take k)) := by
        obtain ⟨Av, cv, e, hr⟩ := hO.read elFct_ok
        exact ⟨Av, _, cv, e, hr.mv elFct_ok (Mv.to wr (S' := fun b => b < wr.heap.size) fun b _ hl => hl)⟩
      rw [HX.out] at hr
      have hF := Lib.hid hr
      clear hr hO
      by_cases hlt : k < n
      · have hd1 : decide ((k : Int) < 10) = false := decide_eq_false (by omega)
        clear hgo
        go_wp2_with fail
        go_ret
        exact ⟨_, _, _, rfl, hF.out, hBr⟩
      · clear hgo
        go_wp2_with fail
        go_ret
        exact ⟨_, _, _, rfl, hF.out, hBr⟩
end Go.Proofs.YtfddaegepmdohaaGreatDoor
