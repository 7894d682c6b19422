/- QryU, QryL -/
import Derived.Test.YtmcccpbpijnbmaaDoorJ34
import Derived.Test.YtmcccpbpijnbmaaDoorJ36
import Derived.Test.YtmcccpbpijnbmaaDoorJ37
import Derived.Deep.DeepCutAuto
namespace Go.Proofs.YtmcccpbpijnbmaaDoor
set_option maxRecDepth 100000
open Go.RowKit

theorem takeX_step {α : Type} {L : List α} {k : Nat} {x : α} (h : L[k]? = some x) : L.take k ++ [x] = L.take (k + 1) := by rw [List.take_add_one, h]; rfl
end Go.Proofs.YtmcccpbpijnbmaaDoor
namespace Go.Proofs.YtmcccpbpijnbmaaDoor
set_option maxRecDepth 100000
open Go.RowKit

def cutQ (P : List (List Txt)) : List (List Txt) := (P.take 8).map fun p => p.take 5
theorem cutQ_at {P : List (List Txt)} {k : Nat} {x : List Txt} (h : P[k]? = some x) (hk : k < 8) : (cutQ P)[k]? = some (x.take 5) := by
 unfold cutQ
 rw [List.getElem?_map, List.getElem?_take, if_pos hk, h]
 rfl
theorem cutQ_len (P : List (List Txt)) : (cutQ P).length = min 8 P.length := by
 unfold cutQ
 rw [List.length_map, List.length_take]
def fewFl (f : Fil) : Fil := (f.1, f.2.1, cutQ f.2.2)
def fewFs (F : List Fil) : List Fil := (F.take 5).map fewFl
def fewQ (q : Qry) : Qry := (q.1.take 6, fewFs q.2)
theorem fewFs_at {F : List Fil} {k : Nat} {f : Fil} (h : F[k]? = some f) (hk : k < 5) : (fewFs F)[k]? = some (fewFl f) := by
 unfold fewFs
 rw [List.getElem?_map, List.getElem?_take, if_pos hk, h]
 rfl
theorem fewFs_len (F : List Fil) : (fewFs F).length = min 5 F.length := by
 unfold fewFs
 rw [List.length_map, List.length_take]
theorem fewQ_short (q : Qry) : (fewQ q).1.length ≤ 6 ∧ (fewQ q).2.length ≤ 5 := ⟨List.length_take_le _ _, by
 show (fewFs q.2).length ≤ 5
 rw [fewFs_len]; omega⟩
theorem cell_litD (w : World) (cs : Array Value) (t : TypeId) : ∀ j u, cs.toList[j]? = some u → (w.alloc (.cells cs t)).cell? ((⟨w.heap.size, 0, none⟩ : Addr).add j) = some u := by
 intro j u hj
 rw [add_flat, Nat.zero_add, (Block.new w t cs).cell j]
 simpa using hj
theorem one_fil (d v : Int) (A : Option Addr) (n c : Nat) : ∀ u ∈ [Value.int .i64 d, Value.int .i64 v, Value.slice A n c], u.oneCell' = true := by
 intro u hu
 simp at hu
 rcases hu with rfl | rfl | rfl <;> rfl
theorem info_filter : (Tryd.prog.info? 57).map (fun i => (i.zero, i.size, i.bytes)) = some (some (.agg #[.int .i64 0, .int .i64 0, .slice none 0 0]), 3, 40) := by kernel_rfl
theorem info_queryS : (Tryd.prog.info? 32).map (·.size) = some 2 := by kernel_rfl
set_option maxHeartbeats 2000000 in
theorem cutQ_any {w : World} {S : Nat → Prop} {A : Option Addr} {n c : Nat} {K : List (List Txt)} (h : Row (elRow elText 1) 1 w S A n c K) :
  Calls Tryd.prog 30 #[.slice A n c] w fun e w' => (∃ A' n' c', e = .returned (.slice A' n' c') ∧ Row (elRow elText 1) 1 w' (fun b => (S b ∧ b < w.heap.size) ∨ (w.heap.size ≤ b ∧ b < w'.heap.size)) A' n' c' (cutQ K)) ∧ Below w.heap.size w w' := by
 have HK := Lib.hid (show Row (elRow elText 1) 1 w (fun b => S b ∧ b < w.heap.size) A n c K from h.mv elPath_ok (Mv.to w fun b hb hl => ⟨hb, hl⟩))
 have HL := Lib.hid h.len
 have hnm := h.lenMax
 have HS : ∀ b, (S b ∧ b < w.heap.size) → b < w.heap.size := fun b hb => hb.2
 clear h
 go_enter Tryd.func30, Tryd.ntmps30
 go_wp2_with fail
 go_loopw [3, 4] (fun v i wr => ∃ k : Nat, k ≤ n ∧ k ≤ 8 ∧ i = .int .i64 k ∧ Hid (OwnR (elRow elText 1) 41 1 wr w.heap.size (fun b => S b ∧ b < w.heap.size) v ((cutQ K).take k)) ∧ Below w.heap.size w wr) (fun _ i _ => n - (intOf i).toNat)
 case atStart => exact ⟨0, Nat.zero_le _, Nat.zero_le _, rfl, Lib.hid (OwnR.nil_ _ _ _), Below.refl _ _⟩
 case round =>
  obtain ⟨k, hk, hk5, rfl, hO, hB⟩ := hrel
  by_cases hgo : k < n ∧ k < 8
  ·obtain ⟨hlt, hlt5⟩ := hgo
   obtain ⟨b, o, A', n', c', x, rfl, _, _, gk, hl, hxe⟩ := (HK.out.mv elPath_ok (Mv.below hB HS)).at1 hlt
   have i0 : (0 : Int) ≤ (k : Int) := by omega
   have i1 : (k : Int) < (n : Int) := by omega
   have i2 : decide ((k : Int) < 8) = true := decide_eq_true (by omega)
   have hT := Lib.hid (takeX_step (cutQ_at hxe.out hlt5))
   have hxl := hl.len
   have hxm := hl.lenMax
   have hxc := hl.cap
   have hxcm := hl.capMax
   have hlb : Hid (((cutQ K).take k).length ≤ 1000000) := Lib.hid (Nat.le_trans (List.length_take_le k _) (by omega))
   have hlo := hO.out.lt
   have hz := hB.size
   by_cases h5 : (5 : Int) < (n' : Int)
   ·have hc5 : (5 : Int) ≤ (c' : Int) := by omega
    have HR := Lib.hid (hl.take_ (k := 5) (by omega))
    clear hl
    have HO1 := Lib.hid (hO.out.alloc elPath_ok (.cells #[.slice A' 5 c'] 41))
    have HE : Hid (elRow elText 1 (wr.alloc (.cells #[.slice A' 5 c'] 41)) (fun b => (S b ∧ b < w.heap.size) ∧ u3.ownBlock ≠ some b) [.slice A' 5 c'] (x.take 5)) := Lib.hid ⟨A', 5, c', rfl, HR.out.mv elText_ok ((Mv.alloc wr _ _).trans (Mv.to _ fun b hb _ => ⟨hb, fun e => by have := (hlo b e).1; have := hb.2; omega⟩))⟩
    have hB1 := hB.trans ((below_a1 wr (.cells #[.slice A' 5 c'] 41)).mono hz)
    have hbs : w.heap.size ≤ (wr.alloc (.cells #[.slice A' 5 c'] 41)).heap.size := hB1.size
    clear hO
    go_wp2_with (at_builtin; refine wpList_appX elPath_ok rfl _ _ rfl info_rowT Tryd.underlying55 rfl (by decide) w.heap.size _ _ _ rfl HO1.out _ rfl [.slice A' 5 c'] rfl (x.take 5) (cell_litX wr _ _) (one_slR A' 5 c') HE.out hlb.out hbs ?_)
    intro v' w8 hO8 hG8
    have hF := Lib.hid (show OwnR (elRow elText 1) 41 1 w8 w.heap.size (fun b => S b ∧ b < w.heap.size) v' ((cutQ K).take (k + 1)) ∧ Below w.heap.size w w8 from ⟨by rw [← hT.out]; exact hO8, hB1.trans (hG8.below_ hbs fun j e => (hlo j e).1)⟩)
    clear hO8 hG8 hB1
    go_wp2_with fail
    go_roundw
    case rel => exact ⟨k + 1, by omega, by omega, by go_num, Lib.hid hF.out.1, hF.out.2⟩
    case measure => simp [intOf]; omega
   ·have HR : Hid (Row elText 1 wr (fun b => S b ∧ b < w.heap.size) A' n' c' (x.take 5)) := Lib.hid (by rw [List.take_of_length_le (by omega)]; exact hl)
    clear hl
    have HO1 := Lib.hid (hO.out.alloc elPath_ok (.cells #[.slice A' n' c'] 41))
    have HE : Hid (elRow elText 1 (wr.alloc (.cells #[.slice A' n' c'] 41)) (fun b => (S b ∧ b < w.heap.size) ∧ u3.ownBlock ≠ some b) [.slice A' n' c'] (x.take 5)) := Lib.hid ⟨A', n', c', rfl, HR.out.mv elText_ok ((Mv.alloc wr _ _).trans (Mv.to _ fun b hb _ => ⟨hb, fun e => by have := (hlo b e).1; have := hb.2; omega⟩))⟩
    have hB1 := hB.trans ((below_a1 wr (.cells #[.slice A' n' c'] 41)).mono hz)
    have hbs : w.heap.size ≤ (wr.alloc (.cells #[.slice A' n' c'] 41)).heap.size := hB1.size
    clear hO
    go_wp2_with (at_builtin; refine wpList_appX elPath_ok rfl _ _ rfl info_rowT Tryd.underlying55 rfl (by decide) w.heap.size _ _ _ rfl HO1.out _ rfl [.slice A' n' c'] rfl (x.take 5) (cell_litX wr _ _) (one_slR A' n' c') HE.out hlb.out hbs ?_)
    intro v' w8 hO8 hG8
    have hF := Lib.hid (show OwnR (elRow elText 1) 41 1 w8 w.heap.size (fun b => S b ∧ b < w.heap.size) v' ((cutQ K).take (k + 1)) ∧ Below w.heap.size w w8 from ⟨by rw [← hT.out]; exact hO8, hB1.trans (hG8.below_ hbs fun j e => (hlo j e).1)⟩)
    clear hO8 hG8 hB1
    go_wp2_with fail
    go_roundw
    case rel => exact ⟨k + 1, by omega, by omega, by go_num, Lib.hid hF.out.1, hF.out.2⟩
    case measure => simp [intOf]; omega
  ·have hall : (cutQ K).take k = cutQ K := by
    refine List.take_of_length_le ?_
    rw [cutQ_len]
    have := HL.out
    omega
   have hF := hO.out
   rw [hall] at hF
   obtain ⟨A9, c9, e9, hR9⟩ := hF.read elPath_ok
   have hR : Row (elRow elText 1) 1 wr (fun b => (S b ∧ b < w.heap.size) ∨ (w.heap.size ≤ b ∧ b < wr.heap.size)) A9 (cutQ K).length c9 (cutQ K) := hR9.mv elPath_ok (Mv.to wr fun b hb hl => by
    rcases hb with hb | hb
    ·exact .inl hb
    ·exact .inr ⟨hb.1, hl⟩)
   subst e9
   have HF := Lib.hid hR
   clear hO hF hR9 hR
   by_cases hlt : k < n
   ·have i1 : (k : Int) < (n : Int) := by omega
    have i2 : decide ((k : Int) < 8) = false := decide_eq_false (by omega)
    go_wp2_with fail
    go_ret
    exact ⟨⟨_, _, _, rfl, HF.out⟩, hB⟩
   ·have i1 : ¬ (k : Int) < (n : Int) := by omega
    go_wp2_with fail
    go_ret
    exact ⟨⟨_, _, _, rfl, HF.out⟩, hB⟩
theorem boxes3q (w : World) (T : TypeId) (cs ds es : Array Value) : Below w.heap.size w (((w.alloc (.cells cs T)).alloc (.cells ds T)).alloc (.cells es T)) ∧ Block (((w.alloc (.cells cs T)).alloc (.cells ds T)).alloc (.cells es T)) w.heap.size T cs ∧ Block (((w.alloc (.cells cs T)).alloc (.cells ds T)).alloc (.cells es T)) (w.heap.size + 1) T ds ∧ Block (((w.alloc (.cells cs T)).alloc (.cells ds T)).alloc (.cells es T)) (w.heap.size + 1 + 1) T es := by
 obtain ⟨h1, h2, h3⟩ := boxes2 w T T cs ds
 refine ⟨below_then h1 (below_a1 _ _), h2.alloc _, h3.alloc _, ?_⟩
 have h := Block.new ((w.alloc (.cells cs T)).alloc (.cells ds T)) T es
 rwa [show ((w.alloc (.cells cs T)).alloc (.cells ds T)).heap.size = w.heap.size + 1 + 1 by simp] at h
def TellFw (w : World) (S : Nat → Prop) (q : Qry) (e : Ending) (w' : World) : Prop :=
 ∃ (A1 : Option Addr) (n1 c1 : Nat) (A2 : Option Addr) (n2 c2 : Nat), e = .returned (qryV A1 n1 c1 A2 n2 c2) ∧ HasQ w' (fun b => (S b ∧ b < w.heap.size) ∨ (w.heap.size ≤ b ∧ b < w'.heap.size)) A1 n1 c1 A2 n2 c2 q ∧ Below w.heap.size w w'
set_option maxHeartbeats 4000000 in
theorem fewQ_any {w : World} {S : Nat → Prop} {A1 A2 : Option Addr} {n1 c1 n2 c2 : Nat} {q : Qry} (hq : HasQ w S A1 n1 c1 A2 n2 c2 q) :
  Calls Tryd.prog 14 #[qryV A1 n1 c1 A2 n2 c2] w (TellFw w S (fewQ q)) := by
 obtain ⟨G, F⟩ := q
 have hn1 := hq.g.lenMax
 have hn2 := hq.f.lenMax
 have hc1 := hq.g.cap
 have hcm1 := hq.g.capMax
 have HF := Lib.hid (show F.length = n2 from hq.f.len)
 have HG := Lib.hid (show G.length = n1 from hq.g.len)
 obtain ⟨hb0, hk1, hk2, hk3⟩ := boxes3q w 32 #[.slice A1 n1 c1, .slice A2 n2 c2] #[.slice none 0 0, .slice none 0 0] #[.slice none 0 0, .slice none 0 0]
 have HQ0 : Hid (HasQ w (fun b => S b ∧ b < w.heap.size) A1 n1 c1 A2 n2 c2 (G, F)) := Lib.hid (hq.mv (Mv.to w fun b hb hl => ⟨hb, hl⟩))
 clear hq
 go_enter Tryd.func14, Tryd.ntmps14
 go_upto_region 2 with fail
 generalize ((w.alloc (.cells #[.slice A1 n1 c1, .slice A2 n2 c2] 32)).alloc (.cells #[.slice none 0 0, .slice none 0 0] 32)).alloc (.cells #[.slice none 0 0, .slice none 0 0] 32) = W at hb0 hk1 hk2 hk3 ⊢
 have k0 : W.cell? ⟨w.heap.size, 0, none⟩ = some (.slice A1 n1 c1) := hk1.cell 0
 have z0 : W.cell? ⟨w.heap.size + 1 + 1, 0, none⟩ = some (.slice none 0 0) := hk3.cell 0
 have fr := hk3.free 0
 go_upto_if 12 with fail
 go_cut [12] (fun _ wx => Block wx (w.heap.size + 1 + 1) 32 #[.slice A1 (min n1 6) c1, .slice none 0 0] ∧ Below (w.heap.size + 1 + 1) W wx)
 case first =>
  have s1 := hk3.set_ 0 (.slice A1 n1 c1)
  have s2 : (W.setCell ⟨w.heap.size + 1 + 1, 0, none⟩ (.slice A1 n1 c1)).cell? ⟨w.heap.size + 1 + 1, 0, none⟩ = some (.slice A1 n1 c1) := s1.cell 0
  have s3 := s1.free 0
  have hbB := (Below.refl (w.heap.size + 1 + 1) W).setCell (p := ⟨w.heap.size + 1 + 1, 0, none⟩) (Nat.le_refl _) (.slice A1 n1 c1)
  by_cases h : (6 : Int) < (n1 : Int)
  ·have h2 : (6 : Int) ≤ (c1 : Int) := by omega
   have e : min n1 6 = 6 := by omega
   have hN := Lib.hid (show Block ((W.setCell ⟨w.heap.size + 1 + 1, 0, none⟩ (.slice A1 n1 c1)).setCell ⟨w.heap.size + 1 + 1, 0, none⟩ (.slice A1 6 c1)) (w.heap.size + 1 + 1) 32 #[.slice A1 (min n1 6) c1, .slice none 0 0] ∧ Below (w.heap.size + 1 + 1) W ((W.setCell ⟨w.heap.size + 1 + 1, 0, none⟩ (.slice A1 n1 c1)).setCell ⟨w.heap.size + 1 + 1, 0, none⟩ (.slice A1 6 c1)) from ⟨by rw [e]; exact s1.set_ 0 _, hbB.setCell (p := ⟨w.heap.size + 1 + 1, 0, none⟩) (Nat.le_refl _) _⟩)
   clear s1 hbB e
   go_wp2_with fail
   go_meet
   exact hN.out
  ·have e : min n1 6 = n1 := by omega
   have hN := Lib.hid (show Block (W.setCell ⟨w.heap.size + 1 + 1, 0, none⟩ (.slice A1 n1 c1)) (w.heap.size + 1 + 1) 32 #[.slice A1 (min n1 6) c1, .slice none 0 0] ∧ Below (w.heap.size + 1 + 1) W (W.setCell ⟨w.heap.size + 1 + 1, 0, none⟩ (.slice A1 n1 c1)) from ⟨by rw [e]; exact s1, hbB⟩)
   clear s1 hbB e
   go_wp2_with fail
   go_meet
   exact hN.out
 case rest =>
  obtain ⟨hk3', hbc⟩ := hcut
  obtain ⟨Wc, rfl⟩ : ∃ Wc, Wc = wc := ⟨_, rfl⟩
  obtain ⟨N, hN⟩ : ∃ N, min n1 6 = N := ⟨_, rfl⟩
  rw [hN] at hk3'
  have HN := Lib.hid hN
  have HK1 := Lib.hid hk1
  have HK2 := Lib.hid hk2
  have hzW : w.heap.size + 1 + 1 < W.heap.size := hk3.lt
  clear hN hk1 hk2 hk3 k0 z0 fr
  go_wp2_with fail
  go_loopw [4] (fun i wr => ∃ (k : Nat) (v : Value), k ≤ n2 ∧ k ≤ 5 ∧ i = .int .i64 k ∧ Below (w.heap.size + 1 + 1) W wr ∧ Block wr (w.heap.size + 1 + 1) 32 #[.slice A1 N c1, v] ∧ OwnR elFil 57 3 wr (w.heap.size + 1 + 1 + 1) (fun b => (S b ∧ b < w.heap.size) ∨ w.heap.size + 1 + 1 < b) v ((fewFs F).take k)) (fun i _ => n2 - (intOf i).toNat)
  case atStart => exact ⟨0, _, Nat.zero_le _, Nat.zero_le _, rfl, hbc, hk3', OwnR.nil_ _ _ _⟩
  case round =>
   clear hbc hk3'
   obtain ⟨k, v, hk, hk5, rfl, hB, hblk, hO⟩ := hrel
   have hzr := hB.size
   have k1 : wr.cell? ⟨w.heap.size, 1, none⟩ = some (.slice A2 n2 c2) := (HK1.out.below hB (by omega)).cell 1
   obtain ⟨Av, nv, cv, rfl⟩ : ∃ A n c, v = .slice A n c := by
    obtain ⟨A, c, e⟩ := hO.shape
    exact ⟨A, _, c, e⟩
   by_cases hgo : k < n2 ∧ k < 5
   ·obtain ⟨hlt, hlt5⟩ := hgo
    have hBw := hb0.trans (hB.mono (show w.heap.size ≤ w.heap.size + 1 + 1 by omega))
    have hrf : Row elFil 3 wr (fun b => S b ∧ b < w.heap.size) A2 n2 c2 F := HQ0.out.f.mv elFil_ok (Mv.below hBw fun b hb => hb.2)
    obtain ⟨b, o, d, x, A', n', c', M', rfl, _, _, g0, g1, g2, hM, he⟩ := hrf.atF hlt
    have i0 : (0 : Int) ≤ (k : Int) := by omega
    have i1 : (k : Int) < (n2 : Int) := by omega
    have i2 : decide ((k : Int) < 5) = true := decide_eq_true (by omega)
    have hbx := below_a1 wr (.cells #[.int .i64 d, .int .i64 x, .slice A' n' c'] 57)
    have hbf := Block.new wr 57 #[.int .i64 d, .int .i64 x, .slice A' n' c']
    have hlo := hO.lt
    have hzk := hblk.lt
    have hB1 := hB.trans (hbx.mono (by omega))
    have hblk1 := hblk.below hbx hblk.lt
    have hO1 := (hO.to (S' := fun b => ((S b ∧ b < w.heap.size) ∨ w.heap.size + 1 + 1 < b) ∧ b < wr.heap.size) elFil_ok fun b hb hl => ⟨hb, hl⟩).below elFil_ok hbx
    have hM1 := hM.mv elPath_ok (Mv.belowS hbx _)
    have HC := Lib.hid (cutQ_any hM1)
    have HT := Lib.hid (takeX_step (fewFs_at he.out hlt5))
    clear hB hblk hO hbx hM hM1 hrf hBw
    go_wp2_with fail
    generalize wr.alloc (.cells #[.int .i64 d, .int .i64 x, .slice A' n' c'] 57) = W1 at hB1 hbf hblk1 hO1 HC ⊢
    have f2 : W1.cell? ⟨wr.heap.size, 2, none⟩ = some (.slice A' n' c') := hbf.cell 2
    clear g0 g1 g2 k1
    go_wp2_with fail
    refine HC.out.mono ?_
    rintro e w2 ⟨⟨A9, n9, c9, rfl, hR9⟩, hb2⟩
    have hbf2 := hbf.below hb2 hbf.lt
    have q2 : w2.cell? ⟨wr.heap.size, 2, none⟩ = some (.slice A' n' c') := hbf2.cell 2
    have q3 := hbf2.free 2
    have hbf3 := hbf2.set_ 2 (.slice A9 n9 c9)
    have hz1 := hbf.lt
    have hz2 := hb2.size
    have hblk2 := hblk1.below hb2 hblk1.lt
    have hO2 := hO1.below elFil_ok hb2
    have hblk3 := hblk2.elsewhere wr.heap.size 2 (.slice A9 n9 c9) (by omega)
    have hB3 := (hB1.trans (hb2.mono (by have := hB1.size; omega))).setCell (p := ⟨wr.heap.size, 2, none⟩) (by show w.heap.size + 1 + 1 ≤ wr.heap.size; omega) (.slice A9 n9 c9)
    have hO3 := ((hO1.below elFil_ok hb2).setR elFil_ok (g := wr.heap.size) (i := 2) (u := .slice A9 n9 c9) (fun e => by have := (hlo _ e).2; omega) (fun h => Nat.lt_irrefl _ h.2)).to (S' := fun b => (S b ∧ b < w.heap.size) ∨ w.heap.size + 1 + 1 < b) elFil_ok fun b hb _ => hb.1
    have hM3 : Row (elRow elText 1) 1 (w2.setCell ⟨wr.heap.size, 2, none⟩ (.slice A9 n9 c9)) (fun b => ((S b ∧ b < w.heap.size) ∨ w.heap.size + 1 + 1 < b) ∧ (Value.slice Av nv cv).ownBlock ≠ some b) A9 n9 c9 (cutQ M') :=
     hR9.mv elPath_ok ((Mv.set w2 wr.heap.size 2 (.slice A9 n9 c9) (fun h => by rcases h with ⟨⟨_, h⟩, _⟩ | h <;> omega)).trans (Mv.to _ fun b hb _ => by
      rcases hb with hb | hb
      ·exact ⟨.inl hb.1, fun e => by have := hlo _ e; have := hb.1.2; omega⟩
      ·exact ⟨.inr (by omega), fun e => by have := hlo _ e; omega⟩))
    clear HC hB1 hbf hblk1 hO1 hb2 hbf2 hblk2 hO2 hR9
    go_upto_region 10 with fail
    generalize w2.setCell ⟨wr.heap.size, 2, none⟩ (.slice A9 n9 c9) = W3 at hbf3 hblk3 hB3 hO3 hM3 ⊢
    clear q2 q3 f2
    have f0 : W3.cell? ⟨wr.heap.size, 0, none⟩ = some (.int .i64 d) := hbf3.cell 0
    have f1 : W3.cell? ⟨wr.heap.size, 1, none⟩ = some (.int .i64 x) := hbf3.cell 1
    have f2 : W3.cell? ⟨wr.heap.size, 2, none⟩ = some (.slice A9 n9 c9) := hbf3.cell 2
    have p1 : W3.cell? ⟨w.heap.size + 1 + 1, 1, none⟩ = some (.slice Av nv cv) := hblk3.cell 1
    have hO4 := hO3.alloc elFil_ok (.cells #[.int .i64 d, .int .i64 x, .slice A9 n9 c9] 57)
    have hE4 := elFil_ok _ _ _ _ _ _ (Mv.alloc W3 (.cells #[.int .i64 d, .int .i64 x, .slice A9 n9 c9] 57) _) (elFil_mk (d := d) (v := x) hM3)
    have hB4 := hB3.trans ((below_a1 W3 (.cells #[.int .i64 d, .int .i64 x, .slice A9 n9 c9] 57)).mono (by have := hblk3.lt; omega))
    have hblk4 := hblk3.alloc (.cells #[.int .i64 d, .int .i64 x, .slice A9 n9 c9] 57)
    have hbs : w.heap.size + 1 + 1 + 1 ≤ (W3.alloc (.cells #[.int .i64 d, .int .i64 x, .slice A9 n9 c9] 57)).heap.size := by rw [World.size_alloc]; have := hblk3.lt; omega
    have hlb : Hid (((fewFs F).take k).length ≤ 1000000) := Lib.hid (Nat.le_trans (List.length_take_le k _) (by omega))
    have p2 : (W3.alloc (.cells #[.int .i64 d, .int .i64 x, .slice A9 n9 c9] 57)).cell? ⟨w.heap.size + 1 + 1, 1, none⟩ = some (.slice Av nv cv) := hblk4.cell 1
    clear hO3 hM3 hB3 hbf3
    go_wp2_with (at_builtin; refine wpList_appX elFil_ok rfl _ _ rfl info_filter Tryd.underlying30 rfl (by decide) (w.heap.size + 1 + 1 + 1) _ _ _ rfl hO4 _ rfl [.int .i64 d, .int .i64 x, .slice A9 n9 c9] rfl (fewFl (d, x, M')) (cell_litD W3 #[.int .i64 d, .int .i64 x, .slice A9 n9 c9] _) (one_fil _ _ _ _ _) hE4 hlb.out hbs ?_)
    intro v' w8 hO8 hG8
    obtain ⟨Aw, nw, cw, rfl⟩ : ∃ A n c, v' = .slice A n c := by
     obtain ⟨A, c, e⟩ := hO8.shape
     exact ⟨A, _, c, e⟩
    have hb8 := hG8.below_ hbs (fun g e => (hO4.lt g e).1)
    have hblk8 := hblk4.below hb8 (by omega)
    have d0 : w8.cell? ⟨w.heap.size + 1 + 1, 1, none⟩ = some (.slice Av nv cv) := hblk8.cell 1
    have d1 := hblk8.free 1
    have hF := Lib.hid (show Below (w.heap.size + 1 + 1) W (w8.setCell ⟨w.heap.size + 1 + 1, 1, none⟩ (.slice Aw nw cw)) ∧ Block (w8.setCell ⟨w.heap.size + 1 + 1, 1, none⟩ (.slice Aw nw cw)) (w.heap.size + 1 + 1) 32 #[.slice A1 N c1, .slice Aw nw cw] ∧ OwnR elFil 57 3 (w8.setCell ⟨w.heap.size + 1 + 1, 1, none⟩ (.slice Aw nw cw)) (w.heap.size + 1 + 1 + 1) (fun b => (S b ∧ b < w.heap.size) ∨ w.heap.size + 1 + 1 < b) (.slice Aw nw cw) ((fewFs F).take (k + 1)) from
     ⟨(hB4.trans (hb8.mono (by omega))).setCell (p := ⟨w.heap.size + 1 + 1, 1, none⟩) (Nat.le_refl _) _, hblk8.set_ 1 _, by
       rw [← HT.out]
       exact hO8.setR elFil_ok (fun e => by have := (hO8.lt _ e).1; omega) (fun h => by rcases h with ⟨_, h⟩ | h <;> omega)⟩)
    clear hO4 hE4 hB4 hblk3 hblk4 hO8 hG8 hb8 hblk8 f0 f1 f2 p1 p2 hlo
    go_wp2_with fail
    go_roundw
    case rel => exact ⟨k + 1, _, by omega, by omega, by go_num, hF.out⟩
    case measure => simp [intOf]; omega
   ·have hall : (fewFs F).take k = fewFs F := by
     refine List.take_of_length_le ?_
     rw [fewFs_len]
     have := HF.out
     omega
    rw [hall] at hO
    obtain ⟨A9, c9, e9, hR9⟩ := hO.read elFil_ok
    injection e9 with e9a e9b e9c
    subst e9a e9c
    rw [← e9b] at hR9
    clear e9b
    have hHQ : HasQ wr (fun b => ((S b ∧ b < w.heap.size) ∨ w.heap.size + 1 + 1 < b) ∧ b < wr.heap.size) A1 N c1 Av nv cv (fewQ (G, F)) := by
     refine ⟨?_, hR9.mv elFil_ok (Mv.to wr fun b hb hl => ⟨by
      rcases hb with hb | hb
      ·exact hb
      ·exact .inr (by omega), hl⟩)⟩
     have hr : Row elInt 1 w (fun b => S b ∧ b < w.heap.size) A1 N c1 (G.take 6) := by
      rw [← HN.out]
      rcases Nat.le_total n1 6 with h | h
      ·rw [Nat.min_eq_left h, List.take_of_length_le (by have := HG.out; omega)]; exact HQ0.out.g
      ·rw [Nat.min_eq_right h]; exact HQ0.out.g.take_ h
     exact hr.mv elInt_ok ((Mv.below (hb0.trans (hB.mono (show w.heap.size ≤ w.heap.size + 1 + 1 by omega))) fun b hb => hb.2).trans (Mv.to _ fun b hb hl => ⟨.inl hb, hl⟩))
    have hbr := HK2.out.below hB (Nat.lt_succ_self _)
    have c0 : wr.cell? ⟨w.heap.size + 1 + 1, 0, none⟩ = some (.slice A1 N c1) := hblk.cell 0
    have c1' : wr.cell? ⟨w.heap.size + 1 + 1, 1, none⟩ = some (.slice Av nv cv) := hblk.cell 1
    have z0 : wr.cell? ⟨w.heap.size + 1, 0, none⟩ = some (.slice none 0 0) := hbr.cell 0
    have z1 : wr.cell? ⟨w.heap.size + 1, 1, none⟩ = some (.slice none 0 0) := hbr.cell 1
    have y0 := hbr.free 0
    have y1 := hbr.free 1
    have HR := Lib.hid ((hbr.set_ 0 (.slice A1 N c1)).set_ 1 (.slice Av nv cv))
    have HB := Lib.hid (((hb0.trans (hB.mono (show w.heap.size ≤ w.heap.size + 1 + 1 by omega))).setCell (p := ⟨w.heap.size + 1, 0, none⟩) (Nat.le_succ _) (.slice A1 N c1)).setCell (p := ⟨w.heap.size + 1, 1, none⟩) (Nat.le_succ _) (.slice Av nv cv))
    have hns : ¬ (((S (w.heap.size + 1) ∧ w.heap.size + 1 < w.heap.size) ∨ w.heap.size + 1 + 1 < w.heap.size + 1) ∧ w.heap.size + 1 < wr.heap.size) := fun h => by
     rcases h.1 with h | h
     ·have := h.2; omega
     ·omega
    have HH := Lib.hid (hHQ.mv (S' := fun b => (S b ∧ b < w.heap.size) ∨ (w.heap.size ≤ b ∧ b < ((wr.setCell ⟨w.heap.size + 1, 0, none⟩ (.slice A1 N c1)).setCell ⟨w.heap.size + 1, 1, none⟩ (.slice Av nv cv)).heap.size)) ((Mv.set wr (w.heap.size + 1) 0 (.slice A1 N c1) hns).trans ((Mv.set _ (w.heap.size + 1) 1 (.slice Av nv cv) hns).trans (Mv.to _ fun b hb hl => by
     rcases hb.1 with hb | hb
     ·exact .inl hb
     ·exact .inr ⟨by omega, hl⟩))))
    clear hHQ hR9 hO hB hblk hbr
    by_cases hlt : k < n2
    ·have i1 : (k : Int) < (n2 : Int) := by omega
     have i2 : decide ((k : Int) < 5) = false := decide_eq_false (by omega)
     clear hgo
     go_wp2_with fail
     refine bodyPost_ret (results_block1 rfl _ _ (w.heap.size + 1) _ _ rfl HR.out Tryd.underlying32 rfl info_queryS) rfl ?_
     exact ⟨_, _, _, _, _, _, rfl, HH.out, HB.out⟩
    ·have i1 : ¬ (k : Int) < (n2 : Int) := by omega
     clear hgo
     go_wp2_with fail
     refine bodyPost_ret (results_block1 rfl _ _ (w.heap.size + 1) _ _ rfl HR.out Tryd.underlying32 rfl info_queryS) rfl ?_
     exact ⟨_, _, _, _, _, _, rfl, HH.out, HB.out⟩
end Go.Proofs.YtmcccpbpijnbmaaDoor
