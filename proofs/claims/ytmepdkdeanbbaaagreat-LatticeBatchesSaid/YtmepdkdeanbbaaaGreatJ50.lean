/- LtS, LtW, LtX, LtY, LuA, LuG, LuH, LuI, LuN, LatticeCellsW -/
import Derived.Test.YtmepdkdeanbbaaaGreatJ29
import Derived.Test.YtmepdkdeanbbaaaGreatJ39
import Derived.Test.YtmepdkdeanbbaaaGreatJ46
import Derived.Test.YtmepdkdeanbbaaaGreatJ48
import Derived.Test.YtmepdkdeanbbaaaGreatJ49
import Derived.Below
import Derived.ChangeOld
import Derived.Deep.RegionHeld3
import Derived.Defers
import Derived.OpenShut
import Derived.ProofKit
import Derived.ShutString
import Derived.Test.YtmepdkdeanbbaaaGreatRows
import Derived.WalkKit
namespace Go.Proofs.YtmepdkdeanbbaaaGreat
set_option maxRecDepth 100000
open Go.RowKit

set_option maxRecDepth 100000 in
theorem apply1_ok {w : World} {rE rB rL : Nat} {u : FrameMode} (hE : w.cell? ⟨rE, 0, none⟩ = some (.int .i64 0)) :
  CallsD Tryz.prog 49 #[.pointer (some ⟨rE, 0, none⟩), .pointer (some ⟨rB, 0, none⟩), .pointer (some ⟨rL, 0, none⟩)] u w fun e u' w' => u' = u ∧ (e = .returned (.tuple #[]) ∧ w' = w) := by
 go_enter_d Tryz.func49, Tryz.ntmps49
 go_wp2
 go_end0
 exact ⟨rfl, rfl⟩
set_option maxRecDepth 100000 in
theorem apply1_no {w : World} {rE rB rL g : Nat} {u : FrameMode} {A : Option Addr} {n c : Nat} {er : Int} {dv : Value} (he : er ≠ 0) (hE : w.cell? ⟨rE, 0, none⟩ = some (.int .i64 er)) (hB : w.cell? ⟨rB, 0, none⟩ = some (.slice A n c)) (hL : w.cell? ⟨rL, 0, none⟩ = some (.pointer (some ⟨g, 0, none⟩))) (hg : w.cell? ⟨g, 3, none⟩ = some dv) (hf : w.frozen? ⟨g, 3, none⟩ = false) :
  CallsD Tryz.prog 49 #[.pointer (some ⟨rE, 0, none⟩), .pointer (some ⟨rB, 0, none⟩), .pointer (some ⟨rL, 0, none⟩)] u w fun e u' w' => u' = u ∧ (e = .returned (.tuple #[]) ∧ w' = w.setCell ⟨g, 3, none⟩ (.slice A n c)) := by
 go_enter_d Tryz.func49, Tryz.ntmps49
 go_wp2
 go_end0
 exact ⟨rfl, rfl⟩
end Go.Proofs.YtmepdkdeanbbaaaGreat
namespace Go.Proofs.YtmepdkdeanbbaaaGreat
set_option maxRecDepth 100000
open Go.RowKit

theorem results_errno {fn : Func} {p : Tmp} (h : fn.results = #[.cell p 37]) (tmps : Array Value) (w : World) (g : Nat) {v : Value} (hp : tmps.getD p undef = .pointer (some ⟨g, 0, none⟩)) (hc : w.cell? ⟨g, 0, none⟩ = some v) : (results fn tmps).run Tryz.prog w = .ok v w := by
 have hp' : tmps[p]?.getD undef = .pointer (some ⟨g, 0, none⟩) := by simpa using hp
 simp [results, h, hp', asAddr, loadVar, go_sem, hc]
def ApplyOut (D : List PDim) (M : List Txt) (V : List (List Int)) (Qs : List (List Pth)) (Cs : List Cub) (cnt : Int) (G : List Fct) (er : Int) (Qs' : List (List Pth)) (Cs' : List Cub) (cnt' : Int) : Prop :=
 (er = (mayBt D M V G : Nat) ∧ mayBt D M V G ≠ 0 ∧ Qs' = Qs ∧ Cs' = Cs ∧ cnt' = cnt) ∨
 (mayBt D M V G = 0 ∧ er = ((addsD (levN D) Qs G).2 : Nat) ∧ (addsD (levN D) Qs G).2 ≠ 0 ∧ Qs' = Qs ∧ Cs' = Cs ∧ cnt' = cnt) ∨
 (mayBt D M V G = 0 ∧ ∃ Rs, addsD (levN D) Qs G = (Rs, 0) ∧ ((1099511627776 < cnt + (G.length : Int) ∧ er = 14) ∨ (cnt + (G.length : Int) ≤ 1099511627776 ∧ ∃ (i : Nat) (x : List Int × List PC), i < (viewsP D V).length ∧ x ∈ gthF (kC Rs ((viewsP D V).getD i [])) oneF G ∧ (withP (Cs.getD i []) x.1 x.2).2 ≠ 0 ∧ er = (withP (Cs.getD i []) x.1 x.2).2)) ∧ Qs' = Qs ∧ Cs' = Cs ∧ cnt' = cnt) ∨
 (mayBt D M V G = 0 ∧ ∃ Rs, addsD (levN D) Qs G = (Rs, 0) ∧ cnt + (G.length : Int) ≤ 1099511627776 ∧ (∀ i, i < (viewsP D V).length → okV (Cs.getD i []) (gthF (kC Rs ((viewsP D V).getD i [])) oneF G)) ∧ er = 0 ∧ Qs' = Rs ∧ Cs' = putsV Cs (chgs Rs (viewsP D V) Cs G (viewsP D V).length) ∧ cnt' = cnt + (G.length : Int))
def ApplyPost (w : World) (F0 : Nat → Prop) (g : Nat) (X1 X2 X3 vv : Value) (W m : Nat) (D : List PDim) (M : List Txt) (V : List (List Int)) (Qs : List (List Pth)) (Cs : List Cub) (cnt : Int) (G : List Fct) (e : Ending) (w' : World) : Prop :=
 ∃ dv' ds' vs' Qs' Cs' cnt' er, e = .returned (.int .i64 er) ∧ LtM w' g X1 X2 X3 dv' vv ds' vs' (levN D) Qs' W m Cs' cnt' ∧ Chg F0 w w' ∧ (∀ k, footL g dv' vv ds' vs' k → F0 k ∨ w.heap.size ≤ k) ∧ ApplyOut D M V Qs Cs cnt G er Qs' Cs' cnt'
set_option maxRecDepth 100000 in
set_option maxHeartbeats 8000000 in
theorem applyL_any {w : World} {g : Nat} {B1 B2 B3 : Option Addr} {b1 b2 n3 b3 : Nat} {dv vv : Value} {ds : List DAt} {vs : List CAt} {Qs : List (List Pth)} {Cs : List Cub} {cnt : Int} {D : List PDim} {Me : List Txt} {V : List (List Int)} {R S : Nat → Prop} (h : LtM w g (.slice B1 D.length b1) (.slice B2 Me.length b2) (.slice B3 n3 b3) dv vv ds vs (levN D) Qs D.length Me.length Cs cnt) (hS : SchR w R B1 D.length b1 B2 Me.length b2 B3 n3 b3 D Me V) (hR : ∀ k, R k → ¬ footL g dv vv ds vs k) (hm : mayS D Me V) (hCl : Cs.length = (viewsP D V).length) (hc0 : 0 ≤ cnt) (hc1 : cnt ≤ 1099511627776) {Af : Option Addr} {nf cf : Nat} {G : List Fct} (hF : HasF w S Af nf cf G) (hSf : ∀ b, S b → ¬ footL g dv vv ds vs b) (hfit : FitD D) (hfm : ∀ s ∈ Me, s.length ≤ maxLen) :
  Calls Tryz.prog 17 #[.pointer (some ⟨g, 0, none⟩), .slice Af nf cf] w (ApplyPost w (footL g dv vv ds vs) g (.slice B1 D.length b1) (.slice B2 Me.length b2) (.slice B3 n3 b3) vv D.length Me.length D Me V Qs Cs cnt G) := by
 have hdim := mayS_dims hm
 have hb0 := below_a1 w (.cells #[.pointer (some ⟨g, 0, none⟩)] 29)
 have hb1 := below_then hb0 (below_a1 (w.alloc (.cells #[.pointer (some ⟨g, 0, none⟩)] 29)) (.cells #[.int .i64 0] 37))
 have hbL := (Block.new w 29 #[.pointer (some ⟨g, 0, none⟩)]).alloc (.cells #[.int .i64 0] 37)
 have hbE := Block.new (w.alloc (.cells #[.pointer (some ⟨g, 0, none⟩)] 29)) 37 #[.int .i64 0]
 rw [World.size_alloc] at hbE
 have hmf : ∀ (fn : Fn) (first cap : Array Value) (w : World), (Instr.makeFunc fn first cap).run Tryz.prog w = .ok (.func fn first cap) w := fun _ _ _ _ => rfl
 have HMy := Lib.hid (mayBatch_any (hS.belowS hb1).has hfit hfm (by have := hS.d.1; omega) (hF.mv elFct_ok (Mv.belowS hb1 _)))
 have HM := Lib.hid h
 have HS := Lib.hid hS
 have HF := Lib.hid hF
 have k0 := (h.below hb1).c0
 have k1 := (h.below hb1).c1
 have k2 := (h.below hb1).c2
 have q0 := hbL.cell 0
 have e0 := hbE.cell 0
 have ef := hbE.free 0
 clear h hS hF
 go_enter_defers Tryz.func17, Tryz.ntmps17
 go_wp2_with fail
 generalize (w.alloc (.cells #[.pointer (some ⟨g, 0, none⟩)] 29)).alloc (.cells #[.int .i64 0] 37) = W1 at hb1 hbL hbE q0 e0 ef k0 k1 k2 HMy ⊢
 have hlE := hbE.lt
 refine HMy.out.mono ?_
 rintro e w3 ⟨rfl, hB3⟩
 have hbL3 := hbL.below hB3 hbL.lt
 have hbE3 := hbE.below hB3 hbE.lt
 have hb3 := hb1.trans (hB3.mono hb1.size)
 have e3 := hbE3.cell 0
 have f3 := hbE3.free 0
 have q3 := hbL3.cell 0
 obtain ⟨mb, hmb⟩ : ∃ mb, Hid (mayBt D Me V G = mb) := ⟨_, Lib.hid rfl⟩
 rw [hmb.out]
 have hbEY := hbE3.set_ 0 (.int .i64 ((mb : Nat) : Int))
 have hbLY : Block (w3.setCell ⟨w.heap.size + 1, 0, none⟩ (.int .i64 ((mb : Nat) : Int))) w.heap.size 29 #[.pointer (some ⟨g, 0, none⟩)] := hbL3.chg ((Chg.refl (fun k => k = w.heap.size + 1) w3).set_ (w.heap.size + 1) 0 _ fun _ => rfl) (by omega)
 have hbY := hb3.setCell (p := ⟨w.heap.size + 1, 0, none⟩) (Nat.le_succ _) (.int .i64 ((mb : Nat) : Int))
 clear HMy q0 e0 ef k0 k1 k2 hB3
 go_upto_region 2 with fail
 generalize w3.setCell ⟨w.heap.size + 1, 0, none⟩ (.int .i64 ((mb : Nat) : Int)) = Y at hbEY hbLY hbY ⊢
 clear e3 f3 q3 hbE3 hbL3 hb3
 have eY := hbEY.cell 0
 have fY := hbEY.free 0
 have qY := hbLY.cell 0
 by_cases hmz : mb = 0
 ·subst hmz
  have hMY := HM.out.below hbY
  obtain ⟨Ad, cd, edv, _, _⟩ := hMY.lenD
  subst edv
  have p3 := hMY.c3
  have hdr := hMY.dr
  rw [show ds.length = (levN D).length from hMY.dcs.len.symm ▸ rfl] at hdr
  have HOw := Lib.hid (ownPD_any hdr hMY.dcs (by rw [levN_len]; omega))
  clear hMY hdr
  go_wp2_with fail
  refine HOw.out.mono ?_
  rintro e w5 ⟨⟨Ab, cb, dsB, rfl, hrB, hdB, hfB⟩, hB5⟩
  have hbL5 := (hbLY.below hB5 hbLY.lt).alloc (.cells #[.slice Ab (levN D).length cb] 89)
  have hbE5 := (hbEY.below hB5 hbEY.lt).alloc (.cells #[.slice Ab (levN D).length cb] 89)
  have hbB5 := Block.new w5 89 #[.slice Ab (levN D).length cb]
  have hb5 := hbY.trans (hB5.mono hbY.size)
  have hba := below_a1 w5 (.cells #[.slice Ab (levN D).length cb] 89)
  have hbZ := hb5.trans (hba.mono hb5.size)
  have hrZ := row_below hrB hba
  have hdZ := hdB.chg (Chg.of_below (S := fun _ => False) hba (Nat.le_refl _)) fun _ _ _ _ h => h
  have hwE : w.heap.size + 1 < w5.heap.size := Nat.lt_of_lt_of_le hbEY.lt hB5.size
  have hzY := hbY.size
  have hYE := hbEY.lt
  clear hrB hdB hB5 hb5 hba HOw eY fY qY p3 hbLY hbEY
  go_upto_region 5 with fail
  generalize hgB : w5.heap.size = gB at hbB5 hwE ⊢
  generalize w5.alloc (.cells #[.slice Ab (levN D).length cb] 89) = Z at hbL5 hbE5 hbB5 hbZ hrZ hdZ ⊢
  clear hgB
  have qZ := hbL5.cell 0
  have HZ := Lib.hid (HM.out.below hbZ)
  have hBt := bt_ok hm hmb.out
  have HBt := Lib.hid hBt
  have hCome := comeL_any HZ.out (HF.out.mv elFct_ok (Mv.belowS hbZ _)) hSf (by have := HF.out.len; have := hBt.few; omega) hBt.len (by rw [levN_len]; omega)
  have HCome := Lib.hid hCome
  -- all that was refused leaves the dictionaries as before
  have HRest : Hid (∀ (y : World) (ds' : List DAt) (Qs' : List (List Pth)) (dv' : Value), Chg (fun k => footL g (.slice Ad (levN D).length cd) vv ds vs k ∨ k = w.heap.size + 1) Z y → LtM y g (.slice B1 D.length b1) (.slice B2 Me.length b2) (.slice B3 n3 b3) dv' vv ds' vs (levN D) Qs' D.length Me.length Cs cnt → ∀ er, ApplyOut D Me V Qs Cs cnt G er Qs Cs cnt → ApplyPost w (footL g (.slice Ad (levN D).length cd) vv ds vs) g (.slice B1 D.length b1) (.slice B2 Me.length b2) (.slice B3 n3 b3) vv D.length Me.length D Me V Qs Cs cnt G (.returned (.int .i64 er)) (y.setCell ⟨g, 3, none⟩ (.slice Ab (levN D).length cb))) := Lib.hid fun y ds' Qs' dv' hc hL er ho => by
   have hlt : ∀ k, footL g (.slice Ad (levN D).length cd) vv ds vs k → k < w.heap.size := fun k hk => HM.out.lt hk
   have hn1 : ∀ k, (Value.slice Ab (levN D).length cb).ownBlock = some k → w.heap.size ≤ k := fun k hk => Nat.le_trans hzY (World.ownsRow.lt hrZ k hk).1
   have hl : dsB.length = (levN D).length := hdZ.len.symm ▸ rfl
   have hno : ∀ k, Y.heap.size ≤ k → ¬ (footL g (.slice Ad (levN D).length cd) vv ds vs k ∨ k = w.heap.size + 1) := fun k hk h => by
    rcases h with h | h
    ·have := hlt k h; omega
    ·omega
   refine ⟨_, dsB, vs, Qs, Cs, cnt, er, rfl, hL.swapD (by rw [hl]; exact row_low (hc.row hrZ fun k hk hk' => hno k (World.ownsRow.lt hrZ k hk).1 hk') (Nat.zero_le _)) (hdZ.chg hc fun d hd k hk hk' => hno k (hfB d hd k hk) hk') (fun d hd c hcv k hk hkc => by have := hfB d hd k hk; have := hlt k (.inr (.inr (.inr (.inr ⟨c, hcv, hkc⟩)))); omega), ?_, ?_, ho⟩
   ·exact ((Chg.of_below (S := footL g (.slice Ad (levN D).length cd) vv ds vs) hbZ (Nat.le_refl _)).trans hc fun k hk h => h.elim id fun h => by omega).set_ g 3 _ fun _ => .inl rfl
   ·rintro k (hk | hk | hk | ⟨d, hd, hk⟩ | hk)
    ·exact .inl (.inl hk)
    ·exact .inr (hn1 k hk)
    ·exact .inl (.inr (.inr (.inl hk)))
    ·exact .inr (Nat.le_trans hzY (hfB d hd k hk))
    ·exact .inl (.inr (.inr (.inr (.inr hk))))
  clear hCome
  go_wp2_with fail
  refine HCome.out.mono ?_
  rintro e w7 ⟨ds7, Qs7, hC7, hcase⟩
  have hF0 : ∀ k, footL g (.slice Ad (levN D).length cd) vv ds vs k → k < w.heap.size := fun k hk => HM.out.lt hk
  have hwZ : w.heap.size + 1 < Z.heap.size := hbE5.lt
  have hL7 := hbL5.chg hC7.chg fun hk => by have := hF0 _ hk; omega
  have hE7 := hbE5.chg hC7.chg fun hk => by have := hF0 _ hk; omega
  have hB7 := hbB5.chg hC7.chg fun hk => by have := hF0 _ hk; omega
  have e7 := hE7.cell 0
  have f7 := hE7.free 0
  have q7 := hL7.cell 0
  have hgE : ¬ g = w.heap.size + 1 := by have := hF0 g (.inl rfl); omega
  -- a world behind a store into the answer
  have HSt : Hid (∀ (er : Int), Chg (fun k => footL g (.slice Ad (levN D).length cd) vv ds vs k ∨ k = w.heap.size + 1) Z (w7.setCell ⟨w.heap.size + 1, 0, none⟩ (.int .i64 er)) ∧ LtM (w7.setCell ⟨w.heap.size + 1, 0, none⟩ (.int .i64 er)) g (.slice B1 D.length b1) (.slice B2 Me.length b2) (.slice B3 n3 b3) (.slice Ad (levN D).length cd) vv ds7 vs (levN D) Qs7 D.length Me.length Cs cnt ∧ Block (w7.setCell ⟨w.heap.size + 1, 0, none⟩ (.int .i64 er)) (w.heap.size + 1) 37 #[.int .i64 er] ∧ Block (w7.setCell ⟨w.heap.size + 1, 0, none⟩ (.int .i64 er)) w.heap.size 29 #[.pointer (some ⟨g, 0, none⟩)] ∧ Block (w7.setCell ⟨w.heap.size + 1, 0, none⟩ (.int .i64 er)) gB 89 #[.slice Ab (levN D).length cb]) := Lib.hid fun er => by
   have hs : Chg (fun k => k = w.heap.size + 1) w7 (w7.setCell ⟨w.heap.size + 1, 0, none⟩ (.int .i64 er)) := (Chg.refl _ w7).set_ (w.heap.size + 1) 0 _ fun _ => rfl
   refine ⟨(hC7.chg.mono fun k _ h => .inl h).trans hs fun k _ h => .inr h, hC7.lt.chg hs fun k hk e => ?_, hE7.set_ 0 _, hL7.chg hs (by omega), hB7.chg hs (by omega)⟩
   rcases hC7.foot k hk with h1 | h1
   ·have := hF0 k h1; omega
   ·omega
  clear hL7 hE7 hB7 hbL5 hbE5 hbB5 hrZ hdZ hfB qZ
  rcases hcase with ⟨ha, rfl, kv, rfl, hKv⟩ | ⟨ha, rfl⟩
  ·obtain ⟨Rs, hRs⟩ : ∃ Rs, Hid ((addsD (levN D) Qs G).1 = Rs) := ⟨_, Lib.hid rfl⟩
   have hAd : addsD (levN D) Qs G = (Rs, 0) := Prod.ext hRs.out ha
   have HAd := Lib.hid hAd
   obtain ⟨hc8, hL8, hE8, hl8, hB8⟩ := HSt.out 0
   rw [hRs.out] at hKv hL8
   have hs : Chg (fun k => k = w.heap.size + 1) w7 (w7.setCell ⟨w.heap.size + 1, 0, none⟩ (.int .i64 0)) := (Chg.refl _ w7).set_ (w.heap.size + 1) 0 _ fun _ => rfl
   have hK8 : OwnLs (w7.setCell ⟨w.heap.size + 1, 0, none⟩ (.int .i64 0)) Z.heap.size kv (keysG (levN D) Rs G) := by
    obtain ⟨xs, h1, h2⟩ := hKv
    have hno : ∀ {v : Value} {e : TypeId} {size n : Nat} {ys : List Value}, w7.ownsRow Z.heap.size e size v n ys → ∀ k, v.ownBlock = some k → ¬ k = w.heap.size + 1 := fun hr k hk e => by have := (World.ownsRow.lt hr k hk).1; omega
    exact ⟨xs, hs.row h1 (hno h1), fun i q hi => by
     obtain ⟨x, e, hx⟩ := h2 i q hi
     exact ⟨x, e, hs.row hx (hno hx)⟩⟩
   obtain ⟨Ak, ck, rfl, hKl⟩ := hK8.form
   have hfoot := hC7.foot
   have hz7 : Z.heap.size ≤ (w7.setCell ⟨w.heap.size + 1, 0, none⟩ (.int .i64 0)).heap.size := hc8.size
   clear hs hKv hK8 ha
   go_upto_region 7 with fail
   generalize w7.setCell ⟨w.heap.size + 1, 0, none⟩ (.int .i64 0) = w8 at hc8 hL8 hE8 hl8 hB8 hKl hz7 ⊢
   have hnf : ∀ k, footL g (.slice Ad (levN D).length cd) vv ds7 vs k → ¬ k = w.heap.size + 1 := fun k hk e => by
    rcases hfoot k hk with h1 | h1
    ·have := hF0 k h1; omega
    ·omega
   have hcw8 : Chg (footL g (.slice Ad (levN D).length cd) vv ds vs) w w8 := (Chg.of_below hbZ (Nat.le_refl _)).trans hc8 fun k hk h => h.elim id fun h => by omega
   have hS8 := HS.out.chg hcw8 hR
   have hF8 := HF.out.mv elFct_ok (Mv.chg hcw8 hSf)
   have hgd := hL8.dcs.good
   have hbk := bt_keys hm HBt.out HZ.out.dcs.good HAd.out
   have hnk : (keysG (levN D) Rs G).length = nf := by unfold keysG; rw [List.length_map]; exact HF.out.len
   have hnf8 : nf ≤ 1000 := by have := HF.out.len; have := HBt.out.few; omega
   have hCh := changesL_any hL8 hS8 hm hCl hc0 hc1 hKl hF8 hnf8 HBt.out.small HBt.out.val hnk hbk.1
   rw [hnk] at hCh ⊢
   have HCh := Lib.hid hCh
   have HL8 := Lib.hid hL8
   have e8 := hE8.cell 0
   have f8 := hE8.free 0
   have q8 := hl8.cell 0
   clear hCh hgd hS8 hF8 hKl
   go_wp2_with fail
   refine HCh.out.mono ?_
   rintro e w9 ⟨hcase, hB9w⟩
   have hE9 := hE8.below hB9w hE8.lt
   have hl9 := hl8.below hB9w hl8.lt
   have hB9 := hB8.below hB9w hB8.lt
   have hL9 := HL8.out.below hB9w
   have hc9 := hc8.trans (Chg.of_below (S := fun k => footL g (.slice Ad (levN D).length cd) vv ds vs k ∨ k = w.heap.size + 1) hB9w (Nat.le_refl _)) fun _ _ h => h
   have hnf9 := hnf
   have e9 := hE9.cell 0
   have f9 := hE9.free 0
   have q9 := hl9.cell 0
   clear e8 f8 q8 hB9w HCh
   rcases hcase with ⟨h1, rfl⟩ | ⟨h1, i, x, h2, h3, h4, rfl⟩ | ⟨h1, h2, Al, cl, rfl, hRw⟩
   ·obtain ⟨er, her⟩ : ∃ er : Int, Hid ((14 : Int) = er) := ⟨_, Lib.hid rfl⟩
    have hne14 : ¬ er = 0 := by rw [← her.out]; decide
    have hOut := Lib.hid (show ApplyOut D Me V Qs Cs cnt G er Qs Cs cnt from .inr (.inr (.inl ⟨hmb.out, Rs, HAd.out, .inl ⟨h1, her.out.symm⟩, rfl, rfl, rfl⟩)))
    rw [her.out]
    have hei : ¬ er = 0 := hne14
    have hs9 : Chg (fun k => k = w.heap.size + 1) w9 (w9.setCell ⟨w.heap.size + 1, 0, none⟩ (.int .i64 er)) := (Chg.refl _ w9).set_ (w.heap.size + 1) 0 _ fun _ => rfl
    have hL9s := hL9.chg hs9 hnf9
    have hE9s := hE9.set_ 0 (.int .i64 er)
    have hl9s := hl9.chg hs9 (by omega)
    have hB9s := hB9.chg hs9 (by omega)
    have hc9s := hc9.trans hs9 fun k _ h => .inr h
    go_upto_region 10 with fail
    generalize w9.setCell ⟨w.heap.size + 1, 0, none⟩ (.int .i64 er) = wa at hL9s hE9s hl9s hB9s hc9s ⊢
    have ea := hE9s.cell 0
    have fa := hE9s.free 0
    have hsa : Chg (fun k => k = w.heap.size + 1) wa (wa.setCell ⟨w.heap.size + 1, 0, none⟩ (.int .i64 er)) := (Chg.refl _ wa).set_ (w.heap.size + 1) 0 _ fun _ => rfl
    have hLb := Lib.hid (hL9s.chg hsa hnf9)
    have HEb := Lib.hid (hE9s.set_ 0 (.int .i64 er))
    have Hlb := Lib.hid (hl9s.chg hsa (by omega))
    have HBb := Lib.hid (hB9s.chg hsa (by omega))
    have Hcb := Lib.hid (hc9s.trans hsa fun k _ h => .inr h)
    have Hei := Lib.hid hei
    clear hsa hs9
    go_wp2_with fail
    refine leaves_cons (f := 49) (args := #[.pointer (some ⟨w.heap.size + 1, 0, none⟩), .pointer (some ⟨gB, 0, none⟩), .pointer (some ⟨w.heap.size, 0, none⟩)]) (by simp) (by simp [go_sem]) ?_
    refine (apply1_no (er := er) Hei.out (HEb.out.cell 0) (HBb.out.cell 0) (Hlb.out.cell 0) (hLb.out.c3) (hLb.out.blk.free 3)).mono ?_
    rintro e u' w'' ⟨rfl, rfl, rfl⟩
    exact ⟨_, results_errno rfl _ _ _ rfl ((HEb.out.chg ((Chg.refl (fun k => k = g) _).set_ g 3 _ fun _ => rfl) (by omega)).cell 0), HRest.out _ _ _ _ Hcb.out hLb.out _ hOut.out⟩
   ·obtain ⟨er, her⟩ : ∃ er : Int, Hid ((withP (Cs.getD i []) x.1 x.2).2 = er) := ⟨_, Lib.hid rfl⟩
    have hOut := Lib.hid (show ApplyOut D Me V Qs Cs cnt G er Qs Cs cnt from .inr (.inr (.inl ⟨hmb.out, Rs, HAd.out, .inr ⟨h1, i, x, h2, h3, h4, her.out.symm⟩, rfl, rfl, rfl⟩)))
    rw [her.out] at h4 ⊢
    have hei : ¬ er = 0 := h4
    have hs9 : Chg (fun k => k = w.heap.size + 1) w9 (w9.setCell ⟨w.heap.size + 1, 0, none⟩ (.int .i64 er)) := (Chg.refl _ w9).set_ (w.heap.size + 1) 0 _ fun _ => rfl
    have hL9s := hL9.chg hs9 hnf9
    have hE9s := hE9.set_ 0 (.int .i64 er)
    have hl9s := hl9.chg hs9 (by omega)
    have hB9s := hB9.chg hs9 (by omega)
    have hc9s := hc9.trans hs9 fun k _ h => .inr h
    go_upto_region 10 with fail
    generalize w9.setCell ⟨w.heap.size + 1, 0, none⟩ (.int .i64 er) = wa at hL9s hE9s hl9s hB9s hc9s ⊢
    have ea := hE9s.cell 0
    have fa := hE9s.free 0
    have hsa : Chg (fun k => k = w.heap.size + 1) wa (wa.setCell ⟨w.heap.size + 1, 0, none⟩ (.int .i64 er)) := (Chg.refl _ wa).set_ (w.heap.size + 1) 0 _ fun _ => rfl
    have hLb := Lib.hid (hL9s.chg hsa hnf9)
    have HEb := Lib.hid (hE9s.set_ 0 (.int .i64 er))
    have Hlb := Lib.hid (hl9s.chg hsa (by omega))
    have HBb := Lib.hid (hB9s.chg hsa (by omega))
    have Hcb := Lib.hid (hc9s.trans hsa fun k _ h => .inr h)
    have Hei := Lib.hid hei
    clear hsa hs9
    go_wp2_with fail
    refine leaves_cons (f := 49) (args := #[.pointer (some ⟨w.heap.size + 1, 0, none⟩), .pointer (some ⟨gB, 0, none⟩), .pointer (some ⟨w.heap.size, 0, none⟩)]) (by simp) (by simp [go_sem]) ?_
    refine (apply1_no (er := er) Hei.out (HEb.out.cell 0) (HBb.out.cell 0) (Hlb.out.cell 0) (hLb.out.c3) (hLb.out.blk.free 3)).mono ?_
    rintro e u' w'' ⟨rfl, rfl, rfl⟩
    exact ⟨_, results_errno rfl _ _ _ rfl ((HEb.out.chg ((Chg.refl (fun k => k = g) _).set_ g 3 _ fun _ => rfl) (by omega)).cell 0), HRest.out _ _ _ _ Hcb.out hLb.out _ hOut.out⟩
   ·obtain ⟨nv, hnv⟩ : ∃ nv, Hid ((viewsP D V).length = nv) := ⟨_, Lib.hid rfl⟩
    rw [hnv.out] at hRw h2 hCl ⊢
    obtain ⟨L, hL⟩ : ∃ L, Hid (chgs Rs (viewsP D V) Cs G nv = L) := ⟨_, Lib.hid rfl⟩
    rw [hL.out] at hRw ⊢
    obtain ⟨n, hn⟩ : ∃ n, Hid (L.length = n) := ⟨_, Lib.hid rfl⟩
    rw [hn.out] at hRw ⊢
    have hOut := Lib.hid (show ApplyOut D Me V Qs Cs cnt G 0 Rs (putsV Cs L) (cnt + (G.length : Int)) from .inr (.inr (.inr ⟨hmb.out, Rs, HAd.out, h1, by rw [hnv.out]; exact h2, rfl, rfl, by rw [hnv.out, hL.out], rfl⟩)))
    have hGl := HF.out.len
    have hnb : n ≤ 56 := by
     have h3 := chgs_len Rs (viewsP D V) Cs G nv
     rw [hL.out, hn.out] at h3
     have h4 := views_few hm
     rw [hnv.out] at h4
     exact Nat.le_trans h3 (Nat.mul_le_mul h4 HBt.out.few)
    have hwr : IntKind.i64.wrap (cnt + (nf : Int)) = cnt + (nf : Int) := IntWalk.i64_in _ (by omega)
    have hview : ∀ v, v < nv → (viewsP D V).getD v [] ∈ viewsP D V := fun v hv => by
     rw [List.getD_eq_getElem?_getD, List.getElem?_eq_getElem (by rw [hnv.out]; exact hv)]
     exact List.getElem_mem _
    have hcub : ∀ v, v < nv → Cuboid D.length Me.length (Cs.getD v []) := fun v hv => by
     have h3 := hL9.cbs.len
     obtain ⟨c, hc⟩ : ∃ c, vs[v]? = some c := ⟨_, List.getElem?_eq_getElem (by omega)⟩
     exact (hL9.cbs.at_ v c hc).ok
    have HFit : Hid (∀ (i : Nat) (x : Chn), L[i]? = some x → Fits D.length Me.length nv (putsV Cs (L.take i)) G x) := Lib.hid fun i x hx => by
     rw [← hL.out] at hx ⊢
     exact put_fits hCl hcub h2 HBt.out.cell (fun v hv f hf => hbk.2 _ (views_lev hm _ (hview v hv)) f hf) hx
    have hs9 : Chg (fun k => k = w.heap.size + 1) w9 (w9.setCell ⟨w.heap.size + 1, 0, none⟩ (.int .i64 0)) := (Chg.refl _ w9).set_ (w.heap.size + 1) 0 _ fun _ => rfl
    have hL9s := hL9.chg hs9 hnf9
    have hE9s := hE9.set_ 0 (.int .i64 0)
    have hl9s := hl9.chg hs9 (by omega)
    have hB9s := hB9.chg hs9 (by omega)
    have hc9s := hc9.trans hs9 fun k _ h => .inr h
    have hR9s := hRw.mv elChg_ok (show Mv w9 (KeB w9) (w9.setCell ⟨w.heap.size + 1, 0, none⟩ (.int .i64 0)) (KeB (w9.setCell ⟨w.heap.size + 1, 0, none⟩ (.int .i64 0))) from fun k hb hl => by
     obtain ⟨cs, T, hT, hk⟩ := hb
     have e := hs9.block k hl fun e => by
      subst e
      have hE : w9.heap[w.heap.size + 1]? = some (.cells _ _ _) := hE9
      rw [hk] at hE
      simp only [Option.some.injEq, Obj.cells.injEq] at hE
      rcases hT with h | h | h <;> (rw [h] at hE; exact absurd hE.2.1 (by decide))
     exact ⟨e, cs, T, hT, e.trans hk⟩)
    clear h1 h2 hcub hview hRw hL9 hE9 hl9 hB9 hc9 HRest hs9
    go_upto_region 10 with fail
    generalize w9.setCell ⟨w.heap.size + 1, 0, none⟩ (.int .i64 0) = wa at hL9s hE9s hl9s hB9s hc9s hR9s ⊢
    have ea := hE9s.cell 0
    have qa := hl9s.cell 0
    have HL0 := Lib.hid hL9s
    have HR0 := Lib.hid hR9s
    have hZa : Z.heap.size ≤ wa.heap.size := hc9s.size
    clear hR9s
    go_wp2_with fail
    go_loopw [46] (fun i wr => ∃ k : Nat, k ≤ n ∧ i = .int .i64 k ∧ Hid (∃ vs', LtM wr g (.slice B1 D.length b1) (.slice B2 Me.length b2) (.slice B3 n3 b3) (.slice Ad (levN D).length cd) vv ds7 vs' (levN D) Rs D.length Me.length (putsV Cs (L.take k)) cnt ∧ ∀ q, footL g (.slice Ad (levN D).length cd) vv ds7 vs' q → footL g (.slice Ad (levN D).length cd) vv ds7 vs q ∨ wa.heap.size ≤ q) ∧ Hid (Row elChg 7 wr (KeB wr) Al n cl L) ∧ Chg (footL g (.slice Ad (levN D).length cd) vv ds7 vs) wa wr) (fun i _ => n - (intOf i).toNat)
    case atStart => exact ⟨0, Nat.zero_le _, rfl, Lib.hid ⟨vs, HL0.out, fun q hq => .inl hq⟩, HR0, Chg.refl _ _⟩
    case round =>
     obtain ⟨k, hk, rfl, hO, hRw, hC⟩ := hrel
     have hlw := hl9s.chg hC fun hk => by
      rcases hfoot _ hk with h1 | h1
      ·have := hF0 _ h1; omega
      ·omega
     have hEw := hE9s.chg hC fun hk => hnf9 _ hk rfl
     have qw := hlw.cell 0
     by_cases hlt : k < n
     ·obtain ⟨b, o, us, x, rfl, _, hbl, _, hcs, ⟨A1, e1, c1, ad, e2, c2, q, A3, e3, c3, A4, e4, c4, A5, e5, c5, rfl, hxK, hxM, hxX⟩, hx⟩ := hRw.out.at_ hlt
      obtain ⟨⟨v, K⟩, M, q', Sx, Mx, Xx⟩ := x
      dsimp only at hxK hxM hxX hcs
      have hq : q = q' := by
       obtain ⟨n', _, _, _, _, _, _, _, _, _, _, _, _, e, _, _, _, ex⟩ := elCell_open hxX
       simp only [List.cons.injEq, Value.int.injEq, true_and] at e
       simp only [Prod.mk.injEq] at ex
       rw [e.1, ex.1]
      subst hq
      obtain ⟨vs', hLw, hfw⟩ := hO.out
      obtain ⟨f1, f2, f3, f4, f5, f6, f7'⟩ := HFit.out k _ hx.out
      dsimp only at f1 f2 f3 f4 f5 f6 f7'
      have p0 : wr.cell? ⟨b, o + k * 7, none⟩ = some (.int .i64 (v : Int)) := hcs 0 _ rfl
      have p1 : wr.cell? ⟨b, o + k * 7 + 1, none⟩ = some (.slice A1 e1 c1) := hcs 1 _ rfl
      have p2 : wr.cell? ⟨b, o + k * 7 + 2, none⟩ = some (.slice (some ad) e2 c2) := hcs 2 _ rfl
      have p3 : wr.cell? ⟨b, o + k * 7 + 3, none⟩ = some (.int .i64 q) := hcs 3 _ rfl
      have p4 : wr.cell? ⟨b, o + k * 7 + 4, none⟩ = some (.slice A3 e3 c3) := hcs 4 _ rfl
      have p5 : wr.cell? ⟨b, o + k * 7 + 5, none⟩ = some (.slice A4 e4 c4) := hcs 5 _ rfl
      have p6 : wr.cell? ⟨b, o + k * 7 + 6, none⟩ = some (.slice A5 e5 c5) := hcs 6 _ rfl
      have i0 : (0 : Int) ≤ (k : Int) := by omega
      have i1 : (k : Int) < (n : Int) := by omega
      have hba := below_a1 wr (.cells #[.int .i64 (v : Int), .slice A1 e1 c1, .slice (some ad) e2 c2, .int .i64 q, .slice A3 e3 c3, .slice A4 e4 c4, .slice A5 e5 c5] 109)
      have hLa := hLw.below hba
      have hcl := hLw.cbs.len
      have hpl : (putsV Cs (L.take k)).length = nv := by rw [putsV_len]; exact hCl
      have hvl : v < (putsV Cs (L.take k)).length := by omega
      have hcell : ∀ e ∈ (putsV Cs (L.take k)).getD v [], isCell Me.length e.2 := by
       obtain ⟨c, hc⟩ : ∃ c, vs'[v]? = some c := ⟨_, List.getElem?_eq_getElem (by omega)⟩
       exact (hLw.cbs.at_ v c hc).ok.cell
      have hPut := putL_any hLa hdim hvl (hxK.mv elInt_ok (Mv.belowS hba _)).hasI (hxM.mv elCell_ok (Mv.belowS hba _)) (by have := hxM.1; have := HBt.out.few; omega) (elCell_ok _ _ _ _ _ _ (Mv.belowS hba _) hxX) f6 hcell f2 f3 f4 f7'
      have hnext : (putsV Cs (L.take k)).set v (setK ((putsV Cs (L.take k)).getD v []) K (q, Sx, Mx, Xx)) = putsV Cs (L.take (k + 1)) := (putsV_snoc hx.out).symm
      rw [hnext] at hPut
      have HPut := Lib.hid hPut
      have HLa := Lib.hid hLa
      have Hfw := Lib.hid hfw
      have HRa := Lib.hid (hRw.out.mv elChg_ok (KeB.below hba))
      have HCa := Lib.hid (hC.trans (Chg.of_below (S := footL g (.slice Ad (levN D).length cd) vv ds7 vs) hba (Nat.le_refl _)) fun _ _ h => h)
      have hbk' := (chg_seven wr (.int .i64 (v : Int)) (.slice A1 e1 c1) (.slice (some ad) e2 c2) (.int .i64 q) (.slice A3 e3 c3) (.slice A4 e4 c4) (.slice A5 e5 c5))
      have z0 := hbk'.cell 0
      have z1 := hbk'.cell 1
      have z2 := hbk'.cell 2
      have z3 := hbk'.cell 3
      have z4 := hbk'.cell 4
      have z5 := hbk'.cell 5
      have z6 := hbk'.cell 6
      have lw := hlw.lt
      have hza := hC.size
      have hzb := hba.size
      clear hO hRw hxK hxM hxX hx hcs hLw hfw hLa hcell hPut hnext hcl hpl hvl f2 f3 f4 f5 f6 f7' hbk' hba
      go_wp2_with fail
      refine HPut.out.mono ?_
      rintro e wc ⟨rfl, vs2, hL2, hC2, hf2⟩
      have hFin := Lib.hid (show (∃ vs', LtM wc g (.slice B1 D.length b1) (.slice B2 Me.length b2) (.slice B3 n3 b3) (.slice Ad (levN D).length cd) vv ds7 vs' (levN D) Rs D.length Me.length (putsV Cs (L.take (k + 1))) cnt ∧ ∀ q, footL g (.slice Ad (levN D).length cd) vv ds7 vs' q → footL g (.slice Ad (levN D).length cd) vv ds7 vs q ∨ wa.heap.size ≤ q) ∧ Row elChg 7 wc (KeB wc) (some ⟨b, o, none⟩) n cl L ∧ Chg (footL g (.slice Ad (levN D).length cd) vv ds7 vs) wa wc from
       ⟨⟨vs2, hL2, fun q hq => by
        rcases hf2 q hq with h1 | h1
        ·exact Hfw.out q h1
        ·exact .inr (by omega)⟩, HRa.out.mv elChg_ok (KeB.chgL HLa.out hC2), HCa.out.trans hC2 fun q hq h => by
        rcases Hfw.out q h with h1 | h1
        ·exact h1
        ·omega⟩)
      clear hL2 hC2 hf2 p0 p1 p2 p3 p4 p5 p6 z0 z1 z2 z3 z4 z5 z6
      go_wp2_with fail
      go_roundw
      case rel => exact ⟨k + 1, by omega, by go_num, Lib.hid hFin.out.1, Lib.hid hFin.out.2.1, hFin.out.2.2⟩
      case measure => simp [intOf]; omega
     ·have hkn : k = n := by omega
      obtain ⟨vs', hLw, hfw⟩ := hO.out
      rw [List.take_of_length_le (by rw [hn.out, hkn]; exact Nat.le_refl _)] at hLw
      subst hkn
      have p5 := hLw.c5
      have pf := hLw.blk.free 5
      have hg5 : Chg (fun k => k = g) wr (wr.setCell ⟨g, 5, none⟩ (.int .i64 (cnt + (nf : Int)))) := (Chg.refl _ wr).set_ g 5 _ fun _ => rfl
      have HL5 := Lib.hid (hLw.setN (cnt + (nf : Int)))
      have HE5 := Lib.hid (hEw.chg hg5 fun e => hnf9 g (.inl rfl) e.symm)
      have HC5 := Lib.hid (hC.trans (hg5.mono (S' := footL g (.slice Ad (levN D).length cd) vv ds7 vs) fun q _ h => .inl h) fun _ _ h => h)
      have Hfw := Lib.hid hfw
      have ew := hEw.cell 0
      have ewf := hEw.free 0
      have hsf : Chg (fun k => k = w.heap.size + 1) (wr.setCell ⟨g, 5, none⟩ (.int .i64 (cnt + (nf : Int)))) ((wr.setCell ⟨g, 5, none⟩ (.int .i64 (cnt + (nf : Int)))).setCell ⟨w.heap.size + 1, 0, none⟩ (.int .i64 0)) := (Chg.refl _ _).set_ (w.heap.size + 1) 0 _ fun _ => rfl
      have hlEa := hE9s.lt
      have HEf := Lib.hid (HE5.out.set_ 0 (.int .i64 0))
      have hOut' := hOut.out
      rw [hGl] at hOut'
      have HF' := Lib.hid (show ApplyPost w (footL g (.slice Ad (levN D).length cd) vv ds vs) g (.slice B1 D.length b1) (.slice B2 Me.length b2) (.slice B3 n3 b3) vv D.length Me.length D Me V Qs Cs cnt G (.returned (.int .i64 0)) ((wr.setCell ⟨g, 5, none⟩ (.int .i64 (cnt + (nf : Int)))).setCell ⟨w.heap.size + 1, 0, none⟩ (.int .i64 0)) from
       ⟨_, ds7, vs', Rs, putsV Cs L, _, 0, rfl, HL5.out.chg hsf fun q hq e => (by
        rcases Hfw.out q hq with h1 | h1
        ·exact hnf9 q h1 e
        ·omega), ((((Chg.of_below (S := footL g (.slice Ad (levN D).length cd) vv ds vs) hbZ (Nat.le_refl _)).trans hc9s fun q hq h => h.elim id fun h => (by omega)).trans HC5.out fun q hq h => (by
        rcases hfoot q h with h1 | h1
        ·exact h1
        ·omega)).trans hsf fun q hq h => (by omega)), fun q hq => (by
        rcases Hfw.out q hq with h1 | h1
        ·rcases hfoot q h1 with h2 | h2
         ·exact .inl h2
         ·exact .inr (by omega)
        ·exact .inr (by omega)), hOut'⟩)
      clear hO hRw hLw hfw hg5 hsf hOut'
      have gE := HE5.out.cell 0
      have gF := HE5.out.free 0
      go_wp2_with fail
      refine leaves_cons (f := 49) (args := #[.pointer (some ⟨w.heap.size + 1, 0, none⟩), .pointer (some ⟨gB, 0, none⟩), .pointer (some ⟨w.heap.size, 0, none⟩)]) (by simp) (by simp [go_sem]) ?_
      refine (apply1_ok (HEf.out.cell 0)).mono ?_
      rintro e u' w'' ⟨rfl, rfl, rfl⟩
      exact ⟨_, results_errno rfl _ _ _ rfl (HEf.out.cell 0), HF'.out⟩
  ·have hOut := Lib.hid (show ApplyOut D Me V Qs Cs cnt G (((addsD (levN D) Qs G).2 : Nat) : Int) Qs Cs cnt from .inr (.inl ⟨hmb.out, rfl, ha, rfl, rfl, rfl⟩))
   obtain ⟨er, her⟩ : ∃ er : Nat, Hid ((addsD (levN D) Qs G).2 = er) := ⟨_, Lib.hid rfl⟩
   rw [her.out] at ha hOut ⊢
   have hei : ¬ ((er : Nat) : Int) = 0 := by omega
   obtain ⟨hc8, hL8, hE8, hl8, hB8⟩ := HSt.out ((er : Nat) : Int)
   go_upto_region 7 with fail
   generalize w7.setCell ⟨w.heap.size + 1, 0, none⟩ (.int .i64 ((er : Nat) : Int)) = w8 at hc8 hL8 hE8 hl8 hB8 ⊢
   have e8 := hE8.cell 0
   have f8 := hE8.free 0
   have hs : Chg (fun k => k = w.heap.size + 1) w8 (w8.setCell ⟨w.heap.size + 1, 0, none⟩ (.int .i64 ((er : Nat) : Int))) := (Chg.refl _ w8).set_ (w.heap.size + 1) 0 _ fun _ => rfl
   have hFt := hC7.foot
   have hL9 := Lib.hid (hL8.chg hs fun k hk e => by
    rcases hFt k hk with h1 | h1
    ·have := hF0 k h1; omega
    ·omega)
   have HE9 := Lib.hid (hE8.set_ 0 (.int .i64 ((er : Nat) : Int)))
   have Hl9 := Lib.hid (hl8.chg hs (by omega))
   have HB9 := Lib.hid (hB8.chg hs (by omega))
   have Hc9 := Lib.hid (hc8.trans hs fun k _ h => .inr h)
   have Hei := Lib.hid hei
   clear hs
   go_wp2_with fail
   refine leaves_cons (f := 49) (args := #[.pointer (some ⟨w.heap.size + 1, 0, none⟩), .pointer (some ⟨gB, 0, none⟩), .pointer (some ⟨w.heap.size, 0, none⟩)]) (by simp) (by simp [go_sem]) ?_
   refine (apply1_no (er := ((er : Nat) : Int)) Hei.out (HE9.out.cell 0) (HB9.out.cell 0) (Hl9.out.cell 0) (hL9.out.c3) (hL9.out.blk.free 3)).mono ?_
   rintro e u' w'' ⟨rfl, rfl, rfl⟩
   exact ⟨_, results_errno rfl _ _ _ rfl ((HE9.out.chg ((Chg.refl (fun k => k = g) _).set_ g 3 _ fun _ => rfl) (by omega)).cell 0), HRest.out _ _ _ _ Hc9.out hL9.out _ hOut.out⟩
 ·have hmi : ¬ ((mb : Nat) : Int) = 0 := by omega
  have hF := Lib.hid (show ApplyPost w (footL g dv vv ds vs) g (.slice B1 D.length b1) (.slice B2 Me.length b2) (.slice B3 n3 b3) vv D.length Me.length D Me V Qs Cs cnt G (.returned (.int .i64 ((mb : Nat) : Int))) (Y.setCell ⟨w.heap.size + 1, 0, none⟩ (.int .i64 ((mb : Nat) : Int))) from by
   have hb := hbY.setCell (p := ⟨w.heap.size + 1, 0, none⟩) (Nat.le_succ _) (.int .i64 ((mb : Nat) : Int))
   exact ⟨dv, ds, vs, Qs, Cs, cnt, _, rfl, HM.out.below hb, Chg.of_below hb (Nat.le_refl _), fun k hk => .inl hk, .inl ⟨by rw [hmb.out], by rw [hmb.out]; exact hmz, rfl, rfl, rfl⟩⟩)
  have hbE' := (hbEY.set_ 0 (.int .i64 ((mb : Nat) : Int))).cell 0
  have HE' := Lib.hid (show (Y.setCell ⟨w.heap.size + 1, 0, none⟩ (.int .i64 ((mb : Nat) : Int))).cell? ⟨w.heap.size + 1, 0, none⟩ = some (.int .i64 ((mb : Nat) : Int)) from hbE')
  clear hbE'
  go_wp2_with fail
  exact ⟨_, results_errno rfl _ _ _ rfl HE'.out, hF.out⟩
end Go.Proofs.YtmepdkdeanbbaaaGreat
namespace Go.Proofs.YtmepdkdeanbbaaaGreat
set_option maxRecDepth 100000
open Go.RowKit

section
variable {D : List PDim} {M : List Txt} {V : List (List Int)} {E : List Hld} {Qs Qs' : List (List Pth)} {Cs Cs' : List Cub} {cnt cnt' er : Int} {G : List Fct}
theorem applyP_is (hL : LatOk D M V E Qs) (hI : IsCubs D M V E Qs Cs) (hC : ∀ i, i < (viewsP D V).length → Cuboid D.length M.length (Cs.getD i [])) (hn : cnt = cntE E) (h : ApplyOut D M V Qs Cs cnt G er Qs' Cs' cnt') :
  er = ((applyP D M V E Qs G).2 : Nat) ∧ Qs' = (applyP D M V E Qs G).1.2 ∧ IsCubs D M V (applyP D M V E Qs G).1.1 Qs' Cs' ∧ cnt' = cntE (applyP D M V E Qs G).1.1 := by
 have hall : ∀ i, Cuboid D.length M.length (Cs.getD i []) := fun i => by
  by_cases hi : i < (viewsP D V).length
  ·exact hC i hi
  ·rw [List.getD_eq_getElem?_getD, List.getElem?_eq_none (by rw [hI.len]; omega)]
   exact Cuboid.nil_ _ _
 have hkey : ∀ Rs, mayBt D M V G = 0 → addsD (levN D) Qs G = (Rs, 0) → IsCubs D M V E Rs Cs ∧ (∀ f ∈ G, isCell M.length (oneF f)) ∧ ∀ v ∈ viewsP D V, ∀ i, (viewsP D V)[i]? = some v → (okV (Cs.getD i []) (gthF (kC Rs v) oneF G) ↔ okF M.length (kP v) cellE (E ++ G.map entF)) := fun Rs h1 h2 => by
  obtain ⟨g1, g2, g3⟩ := addsD_all hL.good h2
  have hB := bt_ok hL.may h1
  have hI' := hI.grown hL g2 g1.noNil
  exact ⟨hI', hB.cell, fun v hv i hi => view_ok hL.cell hB.cell g1.noNil (fun e he => (hL.has v hv e he).grown g2) (fun f hf => g3 v (views_lev hL.may v hv) f hf (hB.len f hf)) (hI'.at_ i v hi) (hL.ok v hv) (hall i).cell⟩
 rcases h with ⟨rfl, h1, a, b, rfl⟩ | ⟨h1, rfl, h2, a, b, rfl⟩ | ⟨h1, Rs, h2, h3, a, b, rfl⟩ | ⟨h1, Rs, h2, h3, h4, rfl, a, b, rfl⟩ <;> (have a := a.symm; have b := b.symm; subst a b)
 ·rw [applyP_may h1]
  exact ⟨rfl, rfl, hI, hn⟩
 ·rw [applyP_dict h1 h2]
  exact ⟨rfl, rfl, hI, hn⟩
 ·have e2 : (addsD (levN D) Qs G).2 = 0 := by rw [h2]
  obtain ⟨hI', hG, hok⟩ := hkey Rs h1 h2
  have fin : er = 14 ∧ applyP D M V E Qs G = ((E, Qs), 14) := by
   rcases h3 with ⟨hb, rfl⟩ | ⟨hb, i, x, hi, hx, hne, rfl⟩
   ·refine ⟨rfl, ?_⟩
    by_cases hf : ∀ v ∈ viewsP D V, okF M.length (kP v) cellE (E ++ G.map entF)
    ·exact applyP_many h1 e2 (by rw [← hn]; exact hb)
    ·obtain ⟨v, hv, hbad⟩ : ∃ v ∈ viewsP D V, ¬ okF M.length (kP v) cellE (E ++ G.map entF) := Classical.byContradiction fun hc => hf fun v hv => Classical.byContradiction fun hc' => hc ⟨v, hv, hc'⟩
     exact applyP_far h1 e2 hv hbad
   ·have hiv : (viewsP D V)[i]? = some ((viewsP D V).getD i []) := by rw [List.getD_eq_getElem?_getD, List.getElem?_eq_getElem hi]; rfl
    have hv := List.mem_of_getElem? hiv
    refine ⟨?_, applyP_far h1 e2 hv fun hc => hne (((hok _ hv i hiv).2 hc) x hx)⟩
    obtain ⟨⟨f, hf, hfk⟩, hxc⟩ := mem_gthF.1 hx
    have hM : ∀ c ∈ x.2, isCell M.length c := fun c hc => by
     rw [hxc] at hc
     unfold cellsV at hc
     obtain ⟨f', hf', rfl⟩ := List.mem_map.1 hc
     exact hG f' (List.mem_filter.1 hf').1
    have hMn : x.2 ≠ [] := fun h0 => by
     have h5 : oneF f ∈ cellsV (kC Rs ((viewsP D V).getD i [])) oneF G x.1 := by unfold cellsV; exact List.mem_map.2 ⟨f, List.mem_filter.2 ⟨hf, decide_eq_true hfk⟩, rfl⟩
     rw [← hxc, h0] at h5
     cases h5
    have hcs : ∀ c ∈ (getK (Cs.getD i []) x.1).toList ++ x.2, isCell M.length c := fun c hc => by
     rcases List.mem_append.1 hc with hc | hc
     ·rcases hq : getK (Cs.getD i []) x.1 with _ | y
      ·rw [hq] at hc; simp at hc
      ·rw [hq] at hc
       simp at hc
       subst hc
       exact (hall i).cell _ (getK_mem hq)
     ·exact hM c hc
    have hcells := cSum_cells hcs (fun h0 => hMn (List.append_eq_nil_iff.1 h0).2)
    unfold withP at hne ⊢
    rw [hcells] at hne ⊢
    by_cases hmay : cMay (sumC M.length ((getK (Cs.getD i []) x.1).toList ++ x.2))
    ·rw [if_pos hmay] at hne
     exact absurd rfl hne
    ·rw [if_neg hmay]
  rw [fin.2]
  exact ⟨fin.1, rfl, hI, hn⟩
 ·have e2 : (addsD (levN D) Qs G).2 = 0 := by rw [h2]
  have e1 : (addsD (levN D) Qs G).1 = Rs := by rw [h2]
  obtain ⟨hI', hG, hok⟩ := hkey Rs h1 h2
  have hokV : ∀ i v, (viewsP D V)[i]? = some v → okV (Cs.getD i []) (gthF (kC Rs v) oneF G) := fun i v hi => by
   have hil := (List.getElem?_eq_some_iff.1 hi).1
   have h5 := h4 i hil
   have hv : (viewsP D V).getD i [] = v := by rw [List.getD_eq_getElem?_getD, hi]; rfl
   rw [hv] at h5
   exact h5
  have hap := applyP_ok (E := E) h1 e2 (fun v hv => by
   obtain ⟨i, hi⟩ := List.getElem?_of_mem hv
   exact (hok v hv i hi).1 (hokV i v hi)) (by rw [← hn]; exact h3)
  rw [hap, e1]
  exact ⟨rfl, rfl, IsCubs.put hL.cell hG hI' (fun i => (hall i).ris) (fun i => (hall i).cell) hokV, by rw [cntE_app, cntE_facts, hn]⟩
end
end Go.Proofs.YtmepdkdeanbbaaaGreat
namespace Go.Proofs.YtmepdkdeanbbaaaGreat
set_option maxRecDepth 100000
open Go.RowKit

theorem mayS_fit {D : List PDim} {M : List Txt} {V : List (List Int)} (h : mayS D M V) : FitD D ∧ ∀ s ∈ M, s.length ≤ maxLen := by
 have hs := mayS_small h
 refine ⟨fun d hd => ⟨?_, fun s hs' => ?_⟩, fun s hs' => ?_⟩
 ·have := (hs.d.2 d hd).1; unfold maxLen; omega
 ·have := (hs.d.2 d hd).2.2 s hs'; unfold maxLen; omega
 ·have := hs.m.2 s hs'; unfold maxLen; omega
theorem cntE_pos {m : Nat} {E : List Hld} (h : ∀ e ∈ E, isCell m e.2) : 0 ≤ cntE E := by
 unfold cntE
 refine (sumI_count fun x hx => ?_).1
 obtain ⟨e, he, rfl⟩ := List.mem_map.1 hx
 have h1 := h e he
 rcases h1.1.2.2.2 with h2 | h2
 ·exact absurd (by rw [h2]; rfl) h1.2.1
 ·have := h2.1; have := h2.2.1; omega
theorem applyLt_any {w : World} {R F S : Nat → Prop} {g : Nat} {D : List PDim} {M : List Txt} {V : List (List Int)} {E : List Hld} {Qs : List (List Pth)} {Cs : List Cub} (h : Lt w R g F D M V Qs Cs (cntE E)) (hRl : ∀ k, R k → k < w.heap.size) (hL : LatOk D M V E Qs) (hI : IsCubs D M V E Qs Cs) {Af : Option Addr} {nf cf : Nat} {G : List Fct} (hF : HasF w S Af nf cf G) (hSf : ∀ b, S b → ¬ F b) :
  Calls Tryz.prog 17 #[.pointer (some ⟨g, 0, none⟩), .slice Af nf cf] w fun e w' => e = .returned (.int .i64 ((applyP D M V E Qs G).2 : Nat)) ∧ ∃ F' Cs', Lt w' R g F' D M V (applyP D M V E Qs G).1.2 Cs' (cntE (applyP D M V E Qs G).1.1) ∧ IsCubs D M V (applyP D M V E Qs G).1.1 (applyP D M V E Qs G).1.2 Cs' ∧ Chg F w w' ∧ ∀ k, F' k → F k ∨ w.heap.size ≤ k := by
 obtain ⟨dv, vv, ds, vs, A1, n1, c1, A2, n2, c2, A3, n3, c3, h1, h2, h3, h4, hm, hCl⟩ := h
 have e1 := h2.d.1
 have e2 := h2.m.1
 subst e1 e2
 have hfit := mayS_fit hm
 have hC : ∀ i, i < (viewsP D V).length → Cuboid D.length M.length (Cs.getD i []) := fun i hi => by
  have h5 := h1.cbs.len
  obtain ⟨c, hc⟩ : ∃ c, vs[i]? = some c := ⟨_, List.getElem?_eq_getElem (by omega)⟩
  exact (h1.cbs.at_ i c hc).ok
 refine (applyL_any h1 h2 (fun k hk hf => h4 k hk ((h3 k).2 hf)) hm hCl (cntE_pos hL.cell) hL.cnt hF (fun b hb hf => hSf b hb ((h3 b).2 hf)) hfit.1 hfit.2).mono ?_
 rintro e w' ⟨dv', ds', vs', Qs', Cs', cnt', er, rfl, hL', hc', hf', ho⟩
 obtain ⟨rfl, rfl, hI', rfl⟩ := applyP_is hL hI hC rfl ho
 have hc : Chg F w w' := hc'.mono fun k _ hk => (h3 k).2 hk
 refine ⟨rfl, footL g dv' vv ds' vs', Cs', ⟨dv', vv, ds', vs', A1, _, c1, A2, _, c2, A3, n3, c3, hL', h2.chg hc h4, fun k => Iff.rfl, fun k hk hf => ?_, hm, hI'.len⟩, hI', hc, fun k hk => (hf' k hk).imp (fun h => (h3 k).2 h) id⟩
 rcases hf' k hf with h5 | h5
 ·exact h4 k hk ((h3 k).2 h5)
 ·have := hRl k hk; omega
end Go.Proofs.YtmepdkdeanbbaaaGreat
namespace Go.Proofs.YtmepdkdeanbbaaaGreat
set_option maxRecDepth 100000
open Go.RowKit

section
variable {D : List PDim} {M : List Txt} {V : List (List Int)} {E : List Hld} {Qs : List (List Pth)} {Cs : List Cub}
theorem codesIn_of (hL : LatOk D M V E Qs) (hI : IsCubs D M V E Qs Cs) {i : Nat} {v : List Int} (hi : (viewsP D V)[i]? = some v) : CodesIn (levN D) Qs (Cs.getD i []) := fun e he => by
 obtain ⟨⟨f, hf, hk⟩, _⟩ := ((hI.at_ i v hi).all e).1 he
 have hl := hL.good.len
 have h1 := (views_lev hL.may v (List.mem_of_getElem? hi)).len
 have h2 : f.1.length = (levN D).length := by
  have h3 := congrArg List.length (hL.lev f hf)
  rwa [List.length_map] at h3
 refine ⟨?_, fun j hj => ?_⟩
 ·rw [← hk]
  exact (keyC_len (by omega) (by omega)).trans hl
 ·have h4 := keyC_get (Qs := Qs) (v := v) (P := f.1) (i := j) (by omega) (by omega) (by omega)
  have h5 : e.1.getD j 0 = _ := (congrArg (fun k => List.getD k j 0) hk.symm).trans h4
  rw [h5]
  have h6 := @fnd_le _ _ (Qs.getD j []) ((f.1.getD j []).take (v.getD j 0).toNat)
  exact ⟨by omega, by omega⟩
theorem rowsC_one (hL : LatOk D M V E Qs) (hI : IsCubs D M V E Qs Cs) {i : Nat} {v : List Int} (hi : (viewsP D V)[i]? = some v) : (rowsC Qs (Cs.getD i [])).Pairwise fun a b => a.1 ≠ b.1 := by
 unfold rowsC
 rw [List.pairwise_map]
 have hC := hI.at_ i v hi
 have h0 : NoNil Qs := hL.good.noNil
 have hP := hL.has v (List.mem_of_getElem? hi)
 refine List.Pairwise.imp_of_mem (fun {a b} ha hb hl e => ?_) hC.ris
 obtain ⟨⟨f, hf, hk⟩, _⟩ := (hC.all a).1 ha
 obtain ⟨⟨g, hg, hk'⟩, _⟩ := (hC.all b).1 hb
 refine lessK_ne hl ?_
 rw [← hk, ← hk', kC_alike h0 hP f hf g hg, ← kC_path h0 hP f hf, ← kC_path h0 hP g hg, hk, hk']
 exact e
theorem risL_of : ∀ {L : Rws}, L.Pairwise (fun a b => ¬ lessL b.1 a.1) → L.Pairwise (fun a b => a.1 ≠ b.1) → RisL L
 | [], _, _ => List.Pairwise.nil
 | x :: L, h, h' => by
  obtain ⟨h1, h2⟩ := List.pairwise_cons.1 h
  obtain ⟨g1, g2⟩ := List.pairwise_cons.1 h'
  refine List.pairwise_cons.2 ⟨fun y hy => ?_, risL_of h2 g2⟩
  rcases lessL_tri x.1 y.1 with h3 | h3 | h3
  ·exact h3
  ·exact absurd h3 (g1 y hy)
  ·exact absurd h3 (h1 y hy)
theorem rows_is (hL : LatOk D M V E Qs) (hI : IsCubs D M V E Qs Cs) {i : Nat} {v : List Int} (hi : (viewsP D V)[i]? = some v) {L : Rws} (hp : L.Perm (rowsC Qs (Cs.getD i []))) (hs : L.Pairwise fun a b => ¬ lessL b.1 a.1) : IsRows M.length (kP v) cellE E L := by
 have h0 : NoNil Qs := hL.good.noNil
 have hP := hL.has v (List.mem_of_getElem? hi)
 refine IsCub.rows (hI.at_ i v hi) (kC_alike h0 hP) (pathsK Qs) (kC_path h0 hP) (risL_of hs ?_) hp
 exact (hp.symm.pairwise_iff (fun h e => h e.symm)).1 (rowsC_one hL hI hi)
theorem rowsC_mem (hL : LatOk D M V E Qs) (hI : IsCubs D M V E Qs Cs) {i : Nat} {v : List Int} (hi : (viewsP D V)[i]? = some v) (x : PKey × PC) : x ∈ rowsC Qs (Cs.getD i []) ↔ (∃ f ∈ E, kP v f = x.1) ∧ x.2 = sumC M.length (cellsV (kP v) cellE E x.1) := by
 have hC := hI.at_ i v hi
 have h0 : NoNil Qs := hL.good.noNil
 have hP := hL.has v (List.mem_of_getElem? hi)
 have hal := kC_alike h0 hP
 have hpa := kC_path h0 hP
 unfold rowsC
 rw [List.mem_map]
 constructor
 ·rintro ⟨e, he, rfl⟩
  obtain ⟨⟨f, hf, hk⟩, hc⟩ := (hC.all e).1 he
  have h2 : pathsK Qs e.1 = kP v f := by rw [← hk]; exact hpa f hf
  refine ⟨⟨f, hf, h2.symm⟩, ?_⟩
  show e.2 = sumC M.length (cellsV (kP v) cellE E (pathsK Qs e.1))
  rw [hc, ← hk, cells_alike hal hf, hpa f hf]
 ·rintro ⟨⟨f, hf, hk⟩, hc⟩
  refine ⟨(kC Qs v f, sumC M.length (cellsV (kC Qs v) cellE E (kC Qs v f))), (hC.all _).2 ⟨⟨f, hf, rfl⟩, rfl⟩, Prod.ext ?_ ?_⟩
  ·show pathsK Qs (kC Qs v f) = x.1
   rw [hpa f hf, hk]
  ·show sumC M.length (cellsV (kC Qs v) cellE E (kC Qs v f)) = x.2
   rw [cells_alike hal hf, hc, hk]
theorem rows_len (hL : LatOk D M V E Qs) (hI : IsCubs D M V E Qs Cs) {i : Nat} {v : List Int} (hi : (viewsP D V)[i]? = some v) {L : Rws} (h : IsRows M.length (kP v) cellE E L) : (Cs.getD i []).length = L.length := by
 have h1 : (rowsC Qs (Cs.getD i [])).Perm L := (List.perm_ext_iff_of_nodup ((rowsC_one hL hI hi).imp fun h e => h (congrArg Prod.fst e)) (h.ris.imp fun h e => lessL_ne h (congrArg Prod.fst e))).2 fun x => (rowsC_mem hL hI hi x).trans (h.all x).symm
 rw [← h1.length_eq]
 unfold rowsC
 rw [List.length_map]
end
def TellRL (w : World) (L : Rws) (e : Ending) (w' : World) : Prop :=
 (∃ A c, e = .returned (.tuple #[.slice A L.length c, .int .i64 0]) ∧ Row elRwO 5 w' (fun b => w.heap.size ≤ b) A L.length c L) ∧ Below w.heap.size w w'
section
variable {w : World} {R F : Nat → Prop} {g : Nat} {D : List PDim} {M : List Txt} {V : List (List Int)} {E : List Hld} {Qs : List (List Pth)} {Cs : List Cub} {cnt : Int}
theorem rowsLt_any (h : Lt w R g F D M V Qs Cs cnt) (hL : LatOk D M V E Qs) (hI : IsCubs D M V E Qs Cs) {i : Nat} {v : List Int} (hi : (viewsP D V)[i]? = some v) :
  Calls Tryz.prog 19 #[.pointer (some ⟨g, 0, none⟩), .int .i64 (i : Int)] w fun e w' => ∃ L, IsRows M.length (kP v) cellE E L ∧ TellRL w L e w' := by
 obtain ⟨dv, vv, ds, vs, A1, n1, c1, A2, n2, c2, A3, n3, c3, h1, h2, h3, h4, hm, hCl⟩ := h
 have hd := mayS_dims hm
 have h7 := views_few hm
 have hil := (List.getElem?_eq_some_iff.1 hi).1
 refine (rowsM_any h1 (by unfold levN; rw [List.length_map]; exact hd.2.1) (by omega) (by omega) (codesIn_of hL hI hi)).mono ?_
 rintro e w' ⟨⟨A, c, L, rfl, hr, hp, hs⟩, hB⟩
 have hl : (Cs.getD i []).length = L.length := by
  rw [hp.length_eq]
  unfold rowsC
  rw [List.length_map]
 rw [hl] at hr ⊢
 exact ⟨L, rows_is hL hI hi hp hs, ⟨A, c, rfl, hr⟩, hB⟩
theorem rowsLt_no (h : Lt w R g F D M V Qs Cs cnt) (v : Int) (hv : ¬ (0 ≤ v ∧ v < ((viewsP D V).length : Int))) :
  Calls Tryz.prog 19 #[.pointer (some ⟨g, 0, none⟩), .int .i64 v] w fun e w' => e = .returned (.tuple #[.slice none 0 0, .int .i64 17]) ∧ w = w' := by
 obtain ⟨dv, vv, ds, vs, A1, n1, c1, A2, n2, c2, A3, n3, c3, h1, h2, h3, h4, hm, hCl⟩ := h
 obtain ⟨Av, cv, evv, hvl, hat⟩ := h1.lenV
 have hH := Lib.hid (hasV_any (r := false) evv h1.c4 v (Lib.hid (decide_eq_false (by rw [hCl]; exact hv))))
 clear h1 h2 h3 h4 hm hCl hat evv hvl hv
 go_enter Tryz.func19, Tryz.ntmps19
 go_wp2_with fail
 refine hH.out.mono ?_
 rintro e w1 ⟨rfl, rfl⟩
 go_wp2_with fail
 go_ret2
 exact ⟨rfl, rfl⟩
end
end Go.Proofs.YtmepdkdeanbbaaaGreat
namespace Go.Proofs.YtmepdkdeanbbaaaGreat
set_option maxRecDepth 100000
open Go.RowKit

theorem lx_hi1 : (viewsP LxD LxV)[1]? = some [1] := by rw [lx_views]; rfl
theorem lx_hi0 : (viewsP LxD LxV)[0]? = some [2] := by rw [lx_views]; rfl
set_option maxRecDepth 100000 in
set_option maxHeartbeats 4000000 in
theorem latLives_any (w : World) : Calls Tryz.prog 13 #[] w fun e w' => e = .returned (.bool true) ∧ Below w.heap.size w w' := by
 have hB0 := LxS_below w
 have hS := LxS_sch w
 go_enter Tryz.func13, Tryz.ntmps13
 go_wp2_with fail
 have HN := Lib.hid (newL_yes hS lx_fit (fun s hs => by rw [List.mem_singleton.1 hs]; decide) lx_may)
 refine HN.out.mono ?_
 rintro e w1 ⟨g, F, R, rfl, hL, hF, hR, hB1⟩
 have HB1 := Lib.hid (below_then hB0 hB1)
 have hzS := hB0.size
 have hbF := LxW_below w1
 have hFt := LxW_has w1
 have hzW := hbF.size
 have hA := applyLt_any (E := []) (hL.below hbF) (fun k hk => by have := (hR k hk).2; omega) (LatOk.begin lx_may) (IsCubs.begin LxD LxM LxV _) hFt (fun b hb hf => by have h1 := hL.lt hf; have h2 : w1.heap.size ≤ b := hb; omega)
 rw [lx_apply.1] at hA
 have HA := Lib.hid hA
 have HF0 := Lib.hid (fun k (hk : F k) => Nat.le_trans hzS (hF k hk))
 clear HN hS hB0 hB1 hL hF hA hFt hR hzS
 go_wp2_with fail
 refine HA.out.mono ?_
 rintro e w2 ⟨rfl, F2, Cs2, hL2, hI2, hc2, hf2⟩
 have HB2 : Hid (Below w.heap.size w w2) := Lib.hid ((below_then HB1.out hbF).trans (hc2.below (Nat.le_trans HB1.out.size hzW) HF0.out))
 have hok := (LatOk.begin lx_may).apply LxF
 rw [lx_apply.2] at hL2 hI2 hok
 obtain ⟨Qs2, hQ2⟩ : ∃ Qs2, Hid ((applyP LxD LxM LxV [] (LxD.map fun _ => []) LxF).1.2 = Qs2) := ⟨_, Lib.hid rfl⟩
 rw [hQ2.out] at hL2 hI2 hok
 rw [lx_cnt] at hL2
 have HL2 := Lib.hid hL2
 have HR := Lib.hid (rowsLt_any hL2 hok hI2 lx_hi1)
 have hlen : lenA Cs2 0 = (3, 0) := by
  have h1 := rows_len hok hI2 lx_hi0 lx_base
  have h2 := hI2.len
  rw [lx_views] at h2
  unfold lenA
  rw [if_pos ⟨by omega, by rw [h2]; decide⟩]
  show (((Cs2.getD 0 []).length : Int), (0 : Int)) = _
  rw [h1]
  rfl
 have HLen := Lib.hid hlen
 clear HA hL2 hI2 hok hc2 hf2 hlen HF0 hbF hzW
 go_wp2_with fail
 refine HR.out.mono ?_
 rintro e w3 ⟨L, hRw, ⟨⟨A, c, rfl, hr⟩, hB3⟩⟩
 obtain rfl := lx_rows hRw
 have HL3 := Lib.hid (HL2.out.below hB3)
 have HB3 := Lib.hid (below_then HB2.out hB3)
 have hrw := Lib.hid (hr.map (E' := elRw) (fun _ _ h => elRwO_read h))
 have HLn := Lib.hid (lenL_any HL3.out 0 HLen)
 have e2 : LxR.length = 2 := rfl
 rw [e2] at hr hrw
 rw [e2]
 clear HR hRw hr hB3 HL2 HLen e2
 go_wp2_with fail
 refine HLn.out.mono ?_
 rintro e w4 ⟨rfl, rfl⟩
 have HRn := Lib.hid (rowsLt_no HL3.out 2 (by rw [lx_views]; decide))
 clear HLn
 go_wp2_with fail
 refine HRn.out.mono ?_
 rintro e w5 ⟨rfl, rfl⟩
 have HFa := Lib.hid (facts_any HL3.out)
 obtain ⟨b, o, A0, n0, c0, q, A1, n1, c1, A2, n2, c2, A3, n3, c3, K, Su, M, X, rfl, _, _, k0, k1, k2, k3, k4, _, hSu, _, _, he⟩ := hrw.out.atR (k := 0) (by decide)
 have he := he.out
 simp only [LxR, List.getElem?_cons_zero, Option.some.injEq, Prod.mk.injEq] at he
 obtain ⟨_, hq, hs, _, _⟩ := he
 subst hq hs
 obtain rfl : n1 = 1 := hSu.len.symm
 obtain ⟨b2, o2, y, e9, _, j1, hy⟩ := hSu.hasI.at_ (k := 0) (by decide)
 subst e9
 have hy3 : y = 12 := hy.out
 subst hy3
 simp only [Nat.zero_mul, Nat.add_zero] at k1 k2 j1
 clear HRn hrw HL3 hSu hy k0 k3 k4
 go_wp2_with fail
 refine HFa.out.mono ?_
 rintro e w6 ⟨rfl, rfl⟩
 clear HFa
 go_wp2_with fail
 go_ret
 exact ⟨rfl, HB3.out⟩
end Go.Proofs.YtmepdkdeanbbaaaGreat
namespace Go.Proofs.YtmepdkdeanbbaaaGreat
set_option maxRecDepth 100000
open Go.RowKit

/-! ### what came in -/
theorem dimE_of {w : World} {cs : List Value} (h : RC Tryz.prog w 75 cs) : ∃ d, elDim w (fun b => b < w.heap.size) cs d ∧ (d.1.length ≤ maxLen ∧ ∀ s ∈ d.2, s.length ≤ maxLen) := by
 have hl := h.len Tryz.underlying75
 rw [cells_dim] at hl
 have f1 := h.field Tryz.underlying75 0 _ rfl
 have f2 := h.field Tryz.underlying75 1 _ rfl
 obtain ⟨x, h1, k1⟩ := RC.elText (S := fun b => b < w.heap.size) Tryz.underlying9 f1
 obtain ⟨L, h2, k2⟩ := RC.elRow (E := elText) (G := fun s => s.length ≤ maxLen) Tryz.underlying23 cells_string (by decide) (fun cs h => RC.elText Tryz.underlying9 h) f2
 refine ⟨(x, L), ⟨?_, ?_⟩, k1, k2⟩
 ·have h1 : elText w (fun b => b < w.heap.size) ((cs.drop 0).take (Tryz.prog.cellsOf 9)) x := h1
  rw [cells_string] at h1
  exact h1
 ·have h2 : elRow elText 1 w (fun b => b < w.heap.size) ((cs.drop 1).take (Tryz.prog.cellsOf 23)) L := h2
  rw [cells_strings, List.take_of_length_le (by simp; omega)] at h2
  exact h2
theorem schR_of {w : World} {cs : List Value} (h : RC Tryz.prog w 26 cs) : ∃ (A1 : Option Addr) (n1 c1 : Nat) (A2 : Option Addr) (n2 c2 : Nat) (A3 : Option Addr) (n3 c3 : Nat) (D : List PDim) (M : List Txt) (V : List (List Int)),
  cs = [.slice A1 n1 c1, .slice A2 n2 c2, .slice A3 n3 c3] ∧ SchR w (fun b => b < w.heap.size) A1 n1 c1 A2 n2 c2 A3 n3 c3 D M V ∧ FitD D ∧ ∀ s ∈ M, s.length ≤ maxLen := by
 have hl := h.len Tryz.underlying26
 rw [cells_schema] at hl
 have f1 := h.field Tryz.underlying26 0 _ rfl
 have f2 := h.field Tryz.underlying26 1 _ rfl
 have f3 := h.field Tryz.underlying26 2 _ rfl
 obtain ⟨A1, n1, c1, e1⟩ := f1.slice_shape Tryz.underlying22
 obtain ⟨A2, n2, c2, e2⟩ := f2.slice_shape Tryz.underlying23
 obtain ⟨A3, n3, c3, e3⟩ := f3.slice_shape Tryz.underlying24
 rw [e1] at f1
 rw [e2] at f2
 rw [e3] at f3
 obtain ⟨D, h1, k1⟩ := f1.row (E := elDim) Tryz.underlying22 cells_dim (by decide) fun _ h => dimE_of h
 obtain ⟨M, h2, k2⟩ := f2.row (E := elText) (G := fun s => s.length ≤ maxLen) Tryz.underlying23 cells_string (by decide) fun _ h => RC.elText Tryz.underlying9 h
 obtain ⟨V, h3, _⟩ := f3.row (E := elRow elInt 1) Tryz.underlying24 cells_ints (by decide) fun _ h => RC.elRow (E := elInt) Tryz.underlying47 cells_int1 (by decide) (fun _ h => RC.elInt Tryz.underlying3 h) h
 have e1 : (cs.drop 0).take (Tryz.prog.cellsOf 22) = [.slice A1 n1 c1] := e1
 have e2 : (cs.drop 1).take (Tryz.prog.cellsOf 23) = [.slice A2 n2 c2] := e2
 have e3 : (cs.drop 2).take (Tryz.prog.cellsOf 24) = [.slice A3 n3 c3] := e3
 rw [cells_dims] at e1
 rw [cells_strings] at e2
 rw [cells_lists] at e3
 match cs, hl with
 | [u0, u1, u2], _ =>
  simp at e1 e2 e3
  subst e1 e2 e3
  exact ⟨A1, n1, c1, A2, n2, c2, A3, n3, c3, D, M, V, rfl, ⟨h1, h2, h3⟩, k1, k2⟩
theorem Row.take9 {α : Type} {E : ElT α} {sz n c : Nat} {w : World} {S : Nat → Prop} {A : Option Addr} {L : List α} (h : Row E sz w S A n c L) (k : Nat) : Row E sz w S A (min n k) c (L.take k) := by
 rcases Nat.le_total k n with h1 | h1
 ·rw [Nat.min_eq_right h1]; exact h.take_ h1
 ·rw [Nat.min_eq_left h1, List.take_of_length_le (by have := h.len; omega)]; exact h
abbrev elBt : ElT (List Fct) := elRow elFct 2
theorem elBt_ok : elBt.Ok := elRow_ok elFct_ok
theorem batches_of {w : World} {a : Option Addr} {n c : Nat} (h : RC Tryz.prog w 27 [.slice a n c]) : ∃ L, Row elBt 1 w (fun b => b < w.heap.size) a n c L := by
 obtain ⟨L, h1, _⟩ := h.row (E := elBt) (G := fun _ => True) (sz := 1) Tryz.underlying27 (by kernel_rfl) (by decide) fun cs h => by
  obtain ⟨l, h1, _⟩ := RC.elRow (E := elFct) (G := FctIn) Tryz.underlying40 cells_fact (by decide) (fun cs h => fact_of h) h
  exact ⟨l, h1, trivial⟩
 exact ⟨L, h1⟩

/-! ### a lattice, its blocks F, its schema's R, all above B -/
structure LSt (y : World) (g : Nat) (F R : Nat → Prop) (B : Nat) (D : List PDim) (M : List Txt) (V : List (List Int)) (E : List Hld) (Qs : List (List Pth)) : Prop where
 ex : ∃ Cs, Lt y R g F D M V Qs Cs (cntE E) ∧ IsCubs D M V E Qs Cs
 ok : LatOk D M V E Qs
 whole : WholeD (levN D) Qs
 low : ∀ k, F k → B ≤ k
 rlt : ∀ k, R k → k < y.heap.size
section
variable {y y' : World} {g : Nat} {F R S : Nat → Prop} {B : Nat} {D : List PDim} {M : List Txt} {V : List (List Int)} {E : List Hld} {Qs : List (List Pth)}
theorem LSt.chg (h : LSt y g F R B D M V E Qs) (hc : Chg S y y') (hF : ∀ k, F k → ¬ S k) (hR : ∀ k, R k → ¬ S k) : LSt y' g F R B D M V E Qs := by
 obtain ⟨Cs, h1, h2⟩ := h.ex
 exact ⟨⟨Cs, h1.chg hc hF hR, h2⟩, h.ok, h.whole, h.low, fun k hk => Nat.lt_of_lt_of_le (h.rlt k hk) hc.size⟩
theorem LSt.below (h : LSt y g F R B D M V E Qs) (hb : Below y.heap.size y y') : LSt y' g F R B D M V E Qs := h.chg (S := fun _ => False) (Chg.of_below hb (Nat.le_refl _)) (fun _ _ h => h) fun _ _ h => h
theorem LSt.drewN (h : LSt y g F R B D M V E Qs) (k : Nat) : LSt (y.drewN k) g F R B D M V E Qs := h.below (below_drewN (Below.refl _ _) k)
theorem LSt.lt (h : LSt y g F R B D M V E Qs) {k : Nat} (hk : F k) : k < y.heap.size := by
 obtain ⟨Cs, h1, h2⟩ := h.ex
 exact h1.lt hk
theorem applyP_no {G : List Fct} (h : (applyP D M V E Qs G).2 ≠ 0) : (applyP D M V E Qs G).1 = (E, Qs) := by
 unfold applyP at h ⊢
 split
 ·rfl
 ·rename_i h1
  rw [if_neg h1] at h
  split
  ·rfl
  ·rename_i h2
   rw [if_neg h2] at h
   split
   ·rfl
   ·rename_i h3
    rw [if_neg h3] at h
    split
    ·rfl
    ·rename_i h4
     rw [if_neg h4] at h
     exact absurd rfl h
theorem applyP_yes {G : List Fct} (h : (applyP D M V E Qs G).2 = 0) : (applyP D M V E Qs G).1 = (E ++ G.map entF, (addsD (levN D) Qs G).1) := by
 unfold applyP at h ⊢
 split
 ·rename_i h1
  rw [if_pos h1] at h
  exact absurd h h1
 ·rename_i h1
  rw [if_neg h1] at h
  split
  ·rename_i h2
   rw [if_pos h2] at h
   exact absurd h h2
  ·rename_i h2
   rw [if_neg h2] at h
   split
   ·rename_i h3
    rw [if_pos h3] at h
    cases h
   ·rename_i h3
    rw [if_neg h3] at h
    split
    ·rename_i h4
     rw [if_pos h4] at h
     cases h
    ·rfl
theorem newS_yes {A1 A2 A3 : Option Addr} {n1 c1 n2 c2 n3 c3 : Nat} {T : Nat → Prop} (h : SchR y T A1 n1 c1 A2 n2 c2 A3 n3 c3 D M V) (hf : FitD D) (hm : ∀ s ∈ M, s.length ≤ maxLen) (hyes : mayS D M V) :
  Calls Tryz.prog 16 #[schV A1 n1 c1 A2 n2 c2 A3 n3 c3] y fun e y' => ∃ g F R, e = .returned (.tuple #[.pointer (some ⟨g, 0, none⟩), .int .i64 0]) ∧ LSt y' g F R y.heap.size D M V [] (D.map fun _ => []) ∧ (∀ k, R k → y.heap.size ≤ k) ∧ Below y.heap.size y y' := by
 refine (newL_yes h hf hm hyes).mono ?_
 rintro e y' ⟨g, F, R, rfl, hL, hF, hR, hB⟩
 exact ⟨g, F, R, rfl, ⟨⟨_, hL, IsCubs.begin D M V _⟩, LatOk.begin hyes, whole_none D, hF, fun k hk => (hR k hk).2⟩, fun k hk => (hR k hk).1, hB⟩
theorem applyS_any (h : LSt y g F R B D M V E Qs) (hB : B ≤ y.heap.size) {Af : Option Addr} {nf cf : Nat} {G : List Fct} (hG : HasF y S Af nf cf G) (hS : ∀ b, S b → ¬ F b) :
  Calls Tryz.prog 17 #[.pointer (some ⟨g, 0, none⟩), .slice Af nf cf] y fun e y' => e = .returned (.int .i64 ((applyP D M V E Qs G).2 : Nat)) ∧ ∃ F', LSt y' g F' R B D M V (applyP D M V E Qs G).1.1 (applyP D M V E Qs G).1.2 ∧ Chg F y y' ∧ ∀ k, F' k → F k ∨ y.heap.size ≤ k := by
 obtain ⟨Cs, h1, h2⟩ := h.ex
 refine (applyLt_any h1 h.rlt h.ok h2 hG hS).mono ?_
 rintro e y' ⟨rfl, F', Cs', h3, h4, hc, hf⟩
 refine ⟨rfl, F', ⟨⟨Cs', h3, h4⟩, h.ok.apply G, applyP_whole h.ok.good h.whole G, fun k hk => ?_, fun k hk => Nat.lt_of_lt_of_le (h.rlt k hk) hc.size⟩, hc, hf⟩
 rcases hf k hk with h5 | h5
 ·exact h.low k h5
 ·omega
theorem applyS_no (h : LSt y g F R B D M V E Qs) (hB : B ≤ y.heap.size) {Af : Option Addr} {nf cf : Nat} {G : List Fct} (hG : HasF y S Af nf cf G) (hS : ∀ b, S b → ¬ F b) {x : Nat} (hx : (applyP D M V E Qs G).2 = x) (hx0 : x ≠ 0) :
  Calls Tryz.prog 17 #[.pointer (some ⟨g, 0, none⟩), .slice Af nf cf] y fun e y' => e = .returned (.int .i64 (x : Nat)) ∧ ∃ F', LSt y' g F' R B D M V E Qs ∧ Chg F y y' ∧ ∀ k, F' k → F k ∨ y.heap.size ≤ k := by
 have h1 := applyS_any h hB hG hS
 rw [applyP_no (by rw [hx]; exact hx0), hx] at h1
 exact h1
theorem applyS_yes (h : LSt y g F R B D M V E Qs) (hB : B ≤ y.heap.size) {Af : Option Addr} {nf cf : Nat} {G : List Fct} (hG : HasF y S Af nf cf G) (hS : ∀ b, S b → ¬ F b) (hx : (applyP D M V E Qs G).2 = 0) :
  Calls Tryz.prog 17 #[.pointer (some ⟨g, 0, none⟩), .slice Af nf cf] y fun e y' => e = .returned (.int .i64 0) ∧ ∃ F', LSt y' g F' R B D M V (E ++ G.map entF) (addsD (levN D) Qs G).1 ∧ Chg F y y' ∧ ∀ k, F' k → F k ∨ y.heap.size ≤ k := by
 have h1 := applyS_any h hB hG hS
 rw [applyP_yes hx, hx] at h1
 exact h1
theorem putS_nil (h : LSt y g F R B D M V E Qs) : Calls Tryz.prog 23 #[.pointer (some ⟨g, 0, none⟩), .slice none 0 0] y fun e y' => ∃ v C, e = .returned v ∧ IsCub M.length (kC Qs (baseP D)) cellE E C ∧ OwnB y' y.heap.size 5 v (encL M.length Qs C) ∧ Below y.heap.size y y' := by
 obtain ⟨Cs, h1, h2⟩ := h.ex
 refine (putLt_nil h1).mono ?_
 rintro e y' ⟨v, rfl, hO, hb⟩
 exact ⟨v, _, rfl, h2.at_ 0 (baseP D) rfl, hO, hb⟩
theorem OwnB.chg {w w' : World} {base : Nat} {T : TypeId} {v : Value} {l : List UInt8} (h : OwnB w base T v l) (hc : Chg S w w') (hS : ∀ k, v.ownBlock = some k → ¬ S k) : OwnB w' base T v l := hc.row h hS
theorem factsS_any (h : LSt y g F R B D M V E Qs) : Calls Tryz.prog 24 #[.pointer (some ⟨g, 0, none⟩)] y fun e y' => e = .returned (.int .i64 (cntE E)) ∧ y = y' := by
 obtain ⟨Cs, h1, h2⟩ := h.ex
 exact facts_any h1
theorem rowsS_any (h : LSt y g F R B D M V E Qs) {i : Nat} {v : List Int} (hi : (viewsP D V)[i]? = some v) :
  Calls Tryz.prog 19 #[.pointer (some ⟨g, 0, none⟩), .int .i64 (i : Int)] y fun e y' => ∃ L, IsRows M.length (kP v) cellE E L ∧ TellRL y L e y' := by
 obtain ⟨Cs, h1, h2⟩ := h.ex
 exact rowsLt_any h1 h.ok h2 hi
end
end Go.Proofs.YtmepdkdeanbbaaaGreat
namespace Go.Proofs.YtmepdkdeanbbaaaGreat
set_option maxRecDepth 100000
open Go.RowKit

theorem addsD_last {N : List Nat} : ∀ {F : List Fct} {Qs Rs : List (List Pth)} {f : Fct}, addsD N Qs F = (Rs, 0) → addsD N Qs (F ++ [f]) = if errD N Rs f.1 ≠ 0 then (Rs, errD N Rs f.1) else (addD N Rs f.1, 0)
 | [], Qs, Rs, f, h => by
  have h1 : Qs = Rs := congrArg Prod.fst h
  subst h1
  rfl
 | g :: F, Qs, Rs, f, h => by
  have h : (if errD N Qs g.1 ≠ 0 then (Qs, errD N Qs g.1) else addsD N (addD N Qs g.1) F) = (Rs, 0) := h
  show (if errD N Qs g.1 ≠ 0 then (Qs, errD N Qs g.1) else addsD N (addD N Qs g.1) (F ++ [f])) = _
  by_cases hg : errD N Qs g.1 ≠ 0
  ·rw [if_pos hg] at h
   exact absurd (congrArg Prod.snd h) hg
  ·rw [if_neg hg] at h ⊢
   exact addsD_last h
theorem addsD_pre {N : List Nat} : ∀ {F : List Fct} {Qs : List (List Pth)} {i : Nat}, (addsD N Qs F).2 = 0 → (addsD N Qs (F.take i)).2 = 0
 | [], _, _, h => by simpa using h
 | _ :: _, _, 0, _ => rfl
 | g :: F, Qs, i + 1, h => by
  have h' : (if errD N Qs g.1 ≠ 0 then (Qs, errD N Qs g.1) else addsD N (addD N Qs g.1) F).2 = 0 := h
  show (if errD N Qs g.1 ≠ 0 then (Qs, errD N Qs g.1) else addsD N (addD N Qs g.1) (F.take i)).2 = 0
  by_cases hg : errD N Qs g.1 ≠ 0
  ·rw [if_pos hg] at h'
   exact absurd h' hg
  ·rw [if_neg hg] at h' ⊢
   exact addsD_pre h'
section
variable {D : List PDim} {M : List Txt} {V : List (List Int)} {E : List Hld} {Qs : List (List Pth)} {G : List Fct}
theorem applyP_zero (h : (applyP D M V E Qs G).2 = 0) : mayBt D M V G = 0 ∧ (addsD (levN D) Qs G).2 = 0 := by
 by_cases h1 : mayBt D M V G = 0
 ·by_cases h2 : (addsD (levN D) Qs G).2 = 0
  ·exact ⟨h1, h2⟩
  ·rw [applyP_dict h1 h2] at h
   exact absurd h h2
 ·rw [applyP_may h1] at h
  exact absurd h h1
theorem applyP_one (h : (applyP D M V E Qs G).2 = 0) {i : Nat} {f : Fct} (hf : G[i]? = some f) {E' : List Hld} (hE : E' = (G.take i).map entF) {Rs : List (List Pth)} (hR : Rs = (addsD (levN D) Qs (G.take i)).1) :
  (applyP D M V E' Rs [f]).2 = 14 ∨ ((applyP D M V E' Rs [f]).2 = 0 ∧ E' ++ [f].map entF = (G.take (i + 1)).map entF ∧ (addsD (levN D) Rs [f]).1 = (addsD (levN D) Qs (G.take (i + 1))).1) := by
 obtain ⟨h1, h2⟩ := applyP_zero h
 have hm : mayBt D M V [f] = 0 := by
  unfold mayBt at h1 ⊢
  split at h1
  ·rename_i hs
   rw [if_pos hs]
   obtain ⟨k1, k2, k3⟩ := missP_is.1 h1
   exact missP_is.2 ⟨by simp, by simp, fun x hx => by rw [List.mem_singleton.1 hx]; exact k3 f (List.mem_of_getElem? hf)⟩
  ·cases h1
 have e0 : addsD (levN D) Qs (G.take i) = (Rs, 0) := Prod.ext hR.symm (addsD_pre h2)
 have e1 := addsD_last (f := f) e0
 rw [← takeG_step hf] at e1
 have e2 := addsD_pre (i := i + 1) h2
 have hq : errD (levN D) Rs f.1 = 0 := Classical.byContradiction fun hn => by
  rw [if_pos hn] at e1
  rw [e1] at e2
  exact hn e2
 rw [if_neg (by omega)] at e1
 have e3 : addsD (levN D) Rs [f] = (addD (levN D) Rs f.1, 0) := by
  show (if errD (levN D) Rs f.1 ≠ 0 then (Rs, errD (levN D) Rs f.1) else (addD (levN D) Rs f.1, 0)) = _
  rw [if_neg (by omega)]
 have hE3 : E' ++ [f].map entF = (G.take (i + 1)).map entF := by rw [takeG_step hf, List.map_append, hE]
 have hR3 : (addsD (levN D) Rs [f]).1 = (addsD (levN D) Qs (G.take (i + 1))).1 := by rw [e3, e1]
 unfold applyP
 rw [if_neg (fun h' => h' hm), if_neg (by rw [e3]; exact fun h' => h' rfl)]
 split
 ·exact .inl rfl
 ·split
  ·exact .inl rfl
  ·exact .inr ⟨rfl, hE3, hR3⟩
end
theorem Row.sub_ {α : Type} {E : ElT α} {sz n c b o : Nat} {w : World} {S : Nat → Prop} {L : List α} (h : Row E sz w S (some ⟨b, o, none⟩) n c L) {k : Nat} (hk : k < n) {x : α} (hx : L[k]? = some x) : Row E sz w S (some ⟨b, o + k * sz, none⟩) 1 (c - k) [x] := by
 obtain ⟨h0, vs, h1, h2⟩ := h
 obtain ⟨b', o', e, hb, hl, hc⟩ := h1.has (by omega)
 injection e with e
 injection e with e3 e4
 subst e3 e4
 have hle : k * sz + sz ≤ n * sz := by rw [← Nat.succ_mul]; exact Nat.mul_le_mul_right sz hk
 have hcap := h1.cap
 have hfit := h1.fit
 refine ⟨rfl, (vs.drop (k * sz)).take sz, ⟨by rw [List.length_take, List.length_drop, h1.len]; omega, by omega, by omega, (fun h => by cases h), fun _ => ⟨b, o + k * sz, rfl, hb, hl, fun j u hu => ?_⟩⟩, fun i y hi => ?_⟩
 ·rw [List.getElem?_take] at hu
  split at hu
  ·rw [List.getElem?_drop] at hu
   rw [Nat.add_assoc]
   exact hc _ u hu
  ·cases hu
 ·match i, hi with
  | 0, hi =>
   simp at hi
   subst hi
   have h3 := h2 k x hx
   rw [Nat.zero_mul, List.drop_zero, List.take_take, Nat.min_self]
   exact h3
  | i + 1, hi => simp at hi
theorem LSt.apart {y y' : World} {g : Nat} {F R F2 : Nat → Prop} {B : Nat} {D : List PDim} {M : List Txt} {V : List (List Int)} {E : List Hld} {Qs : List (List Pth)} (h : LSt y g F R B D M V E Qs) (hc : Chg F2 y y') (h1 : ∀ k, F2 k → ¬ F k ∧ ¬ R k) : LSt y' g F R B D M V E Qs :=
 h.chg hc (fun k hk hk2 => (h1 k hk2).1 hk) fun k hk hk2 => (h1 k hk2).2 hk
end Go.Proofs.YtmepdkdeanbbaaaGreat
namespace Go.Proofs.YtmepdkdeanbbaaaGreat
set_option maxRecDepth 100000
open Go.RowKit

theorem cellsV_entP {v : List Int} (G : List Fct) (k : PKey) : cellsV (kP v) cellE (G.map entF) k = cellsV (kP v) oneF G k := by
 unfold cellsV
 rw [List.filter_map, List.map_map]
 rfl
theorem isRows_ent {m : Nat} {v : List Int} {G : List Fct} {L : Rws} (h : IsRows m (kP v) oneF G L) : IsRows m (kP v) cellE (G.map entF) L :=
 ⟨h.ris, fun x => by
  rw [h.all x, cellsV_entP]
  refine and_congr_left fun _ => ?_
  constructor
  ·rintro ⟨f, hf, e⟩
   exact ⟨entF f, List.mem_map.2 ⟨f, hf, rfl⟩, e⟩
  ·rintro ⟨e, he, hk⟩
   obtain ⟨f, hf, rfl⟩ := List.mem_map.1 he
   exact ⟨f, hf, hk⟩⟩
theorem okF_ent {m : Nat} {v : List Int} {G : List Fct} : okF m (kP v) cellE (G.map entF) ↔ okF m (kP v) oneF G := by
 constructor
 ·intro h f hf
  have h1 := h (entF f) (List.mem_map.2 ⟨f, hf, rfl⟩)
  rw [cellsV_entP] at h1
  exact h1
 ·intro h e he
  obtain ⟨f, hf, rfl⟩ := List.mem_map.1 he
  rw [cellsV_entP]
  exact h f hf
theorem fit_rows {D : List PDim} {M : List Txt} {V : List (List Int)} (hm : mayS D M V) {G : List Fct} (hf : ∀ f ∈ G, fitF D M.length f) {v : List Int} (hv : v ∈ viewsP D V) {nv : Nat} (hnv : v.length = nv) : ∀ f ∈ G, nv ≤ f.1.length ∧ isVal M.length f.2 ∧ ∀ p ∈ f.1, p.length ≤ 1000000 := fun f hfG => by
 have h1 := hf f hfG
 have h2 := (views_lev hm v hv).len
 refine ⟨?_, fit_val h1, fun p hp => ?_⟩
 ·rw [← hnv, h2, h1.2.1]
  unfold levN
  rw [List.length_map]
  exact Nat.le_refl _
 ·have h3 : p.length ∈ levN D := by
   rw [← fit_lev h1]
   exact List.mem_map.2 ⟨p, hp, rfl⟩
  have := (levN_may hm _ h3).2
  omega
theorem view_len {D : List PDim} {M : List Txt} {V : List (List Int)} (hm : mayS D M V) {v : List Int} (hv : v ∈ viewsP D V) : v.length ≤ 3 := by
 have h2 := (views_lev hm v hv).len
 have h3 := (mayS_dims hm).2.1
 rw [h2]
 unfold levN
 rw [List.length_map]
 exact h3
theorem refRowsS_any {y : World} {A1 A2 A3 Af Av : Option Addr} {n1 c1 c2 n3 c3 nf cf nv cv : Nat} {D : List PDim} {M : List Txt} {V : List (List Int)} {G : List Fct} (hm : mayS D M V) (hf : ∀ f ∈ G, fitF D M.length f) (hG : HasF y (fun b => b < y.heap.size) Af nf cf G) {v : List Int} (hv : v ∈ viewsP D V) (hV : HasI y y.heap.size Av nv cv v) (hn : nf ≤ 1000) :
  Calls Tryz.prog 20 #[schV A1 n1 c1 A2 M.length c2 A3 n3 c3, .slice Af nf cf, .slice Av nv cv] y (TellRR y M.length (kP v) G) :=
 refRows_any hG hV (mayS_dims hm).2.2.2 (fit_rows hm hf hv hV.len) hn (by have h1 := hV.len; have h2 := view_len hm hv; omega)
theorem refRowsS_yes {y : World} {A1 A2 A3 Af Av : Option Addr} {n1 c1 c2 n3 c3 nf cf nv cv : Nat} {D : List PDim} {M : List Txt} {V : List (List Int)} {Qs : List (List Pth)} {G : List Fct} (hL : LatOk D M V (G.map entF) Qs) (hf : ∀ f ∈ G, fitF D M.length f) (hG : HasF y (fun b => b < y.heap.size) Af nf cf G) {v : List Int} (hv : v ∈ viewsP D V) (hV : HasI y y.heap.size Av nv cv v) (hn : nf ≤ 1000) :
  Calls Tryz.prog 20 #[schV A1 n1 c1 A2 M.length c2 A3 n3 c3, .slice Af nf cf, .slice Av nv cv] y fun e y' => (∃ A c L, e = .returned (.tuple #[.slice A L.length c, .int .i64 0]) ∧ IsRows M.length (kP v) cellE (G.map entF) L ∧ Row elRw 5 y' (fun b => y.heap.size ≤ b) A L.length c L) ∧ Below y.heap.size y y' := by
 refine (refRowsS_any hL.may hf hG hv hV hn).mono ?_
 rintro e y' ⟨h, hb⟩
 rcases h with ⟨_, A, c, L, rfl, h1, h2⟩ | ⟨h, _⟩
 ·exact ⟨⟨A, c, L, rfl, isRows_ent h1, h2⟩, hb⟩
 ·exact absurd (okF_ent.1 (hL.ok v hv)) h
theorem OwnR.chg {α : Type} {E : ElT α} {T : TypeId} {sz base : Nat} {w w' : World} {S F : Nat → Prop} {v : Value} {L : List α} (hE : E.Ok) (h : OwnR E T sz w base S v L) (hc : Chg F w w') (h1 : ∀ k, v.ownBlock = some k → ¬ F k) (h2 : ∀ k, S k → ¬ F k) : OwnR E T sz w' base S v L := by
 obtain ⟨vs, hr, hx⟩ := h
 exact ⟨vs, hc.row hr h1, fun i x hi => hE _ _ _ _ _ _ (fun b hb hl => ⟨hc.block b hl (h2 b hb.1), hb⟩) (hx i x hi)⟩
theorem mayBt_len {D : List PDim} {M : List Txt} {V : List (List Int)} {G : List Fct} (h : mayBt D M V G = 0) : 1 ≤ G.length ∧ G.length ≤ 8 := by
 unfold mayBt at h
 split at h
 ·obtain ⟨h1, h2, _⟩ := missP_is.1 h
  exact ⟨h1, h2⟩
 ·cases h
theorem elFct_one (S : Nat → Prop) (w : World) : ∀ (us : List Value) (y : Fct), elFct w S us y → us.length = 2 → ∀ u ∈ us, u.oneCell' = true := by
 intro us y h hl u hu
 obtain ⟨⟨A, n, c, e1, _⟩, B, m, d, e2, _⟩ := h
 match us, hl with
 | [a, b], _ =>
  simp at e1 e2
  subst e1 e2
  simp at hu
  rcases hu with rfl | rfl <;> rfl
end Go.Proofs.YtmepdkdeanbbaaaGreat
namespace Go.Proofs.YtmepdkdeanbbaaaGreat.latticeCells
open Go.ChangeShapes Go.WideShapes Go.ChangeAt Go.RowKit
open Go.ChangeMaps (open_string shut_string)
set_option linter.unusedVariables false

theorem own : ownKnob Tryz.prog.godebug = none := by kernel_rfl
theorem laidOut : laidOutB Tryz.prog = true := by kernel_rfl

def IsRow (k : IntKind) (w : World) (a : Option Addr) (len cap : Nat) (zs : List Int) : Prop :=
 (a = none ∧ len = 0 ∧ cap = 0 ∧ zs = []) ∨
 ∃ x, a = some x ∧ len ≤ cap ∧ cap ≤ maxLen ∧ zs.length = cap ∧ (∀ i, i < zs.length → w.cell? (x.add i) = some (.int k (zs.getD i 0))) ∧ ∀ n ∈ zs, (Lit.int k n).wf = true

set_option maxRecDepth 100000 in
set_option maxHeartbeats 2000000 in
theorem walk (cs0 : Array Value) (a1 : Option Addr) (len1 cap1 : Nat) (w : World) (w0 : RC Tryz.prog w 26 cs0.toList) (w1 : RC Tryz.prog w 27 [.slice a1 len1 cap1]) :
  Calls Tryz.prog 4 #[.agg cs0, .slice a1 len1 cap1] w fun e w' => e = .returned (.bool true) ∧ Below w.heap.size w w' := by
 obtain ⟨L, hL⟩ := batches_of w1
 have KL : Hid (∀ y, Below w.heap.size w y → Row elBt 1 y (fun b => b < w.heap.size) a1 len1 cap1 L) := Lib.hid fun y hy => hL.mv elBt_ok (Mv.below hy fun b hb => hb)
 have hlm := hL.lenMax
 clear w1 hL
 obtain ⟨A1, n1, c1, A2, n2, c2, A3, n3, c3, D, M, V, es, hS, hf, hm⟩ := schR_of w0
 obtain rfl : cs0 = #[.slice A1 n1 c1, .slice A2 n2 c2, .slice A3 n3 c3] := by rw [← Array.toArray_toList (xs := cs0), es]
 clear w0 es
 have hb0 := below_a1 w (.cells #[.slice A1 n1 c1, .slice A2 n2 c2, .slice A3 n3 c3] 26)
 have hX := Block.new w 26 #[.slice A1 n1 c1, .slice A2 n2 c2, .slice A3 n3 c3]
 have HSM := Lib.hid (small_any (hS.belowS hb0).has)
 have HS0 := Lib.hid hS
 have HfD := Lib.hid hf
 have HfM := Lib.hid hm
 clear hS hf hm
 go_enter Tryz.func4, Tryz.ntmps4
 go_wp2_with fail
 generalize w.alloc (.cells #[.slice A1 n1 c1, .slice A2 n2 c2, .slice A3 n3 c3] 26) = w1 at hb0 hX HSM ⊢
 refine HSM.out.mono ?_
 rintro e w2 ⟨rfl, hb2⟩
 have hX2 := hX.below hb2 hX.lt
 have x0 : w2.cell? ⟨w.heap.size, 0, none⟩ = some (.slice A1 n1 c1) := hX2.cell 0
 have x1 : w2.cell? ⟨w.heap.size, 1, none⟩ = some (.slice A2 n2 c2) := hX2.cell 1
 have x2 : w2.cell? ⟨w.heap.size, 2, none⟩ = some (.slice A3 n3 c3) := hX2.cell 2
 have f0 := hX2.free 0
 have f1 := hX2.free 1
 have f2 := hX2.free 2
 have hX3 := ((hX2.set_ 0 (.slice A1 (min n1 6) c1)).set_ 1 (.slice A2 (min n2 6) c2)).set_ 2 (.slice A3 (min n3 9) c3)
 have hB3 := (((hb0.trans (hb2.mono hb0.size)).setCell (p := ⟨w.heap.size, 0, none⟩) (Nat.le_refl _) (.slice A1 (min n1 6) c1)).setCell (p := ⟨w.heap.size, 1, none⟩) (Nat.le_refl _) (.slice A2 (min n2 6) c2)).setCell (p := ⟨w.heap.size, 2, none⟩) (Nat.le_refl _) (.slice A3 (min n3 9) c3)
 obtain ⟨N1, hN1⟩ : ∃ N1, min n1 6 = N1 := ⟨_, rfl⟩
 obtain ⟨N2, hN2⟩ : ∃ N2, min n2 6 = N2 := ⟨_, rfl⟩
 obtain ⟨N3, hN3⟩ : ∃ N3, min n3 9 = N3 := ⟨_, rfl⟩
 have l1 : N1 ≤ 6 := by omega
 have l3 : N3 ≤ 9 := by omega
 rw [hN1, hN2, hN3] at hX3 hB3
 rw [hN1, hN2, hN3]
 have hSt := Lib.hid (show SchR w (fun b => b < w.heap.size) A1 N1 c1 A2 N2 c2 A3 N3 c3 (D.take 6) (M.take 6) (V.take 9) from by
  rw [← hN1, ← hN2, ← hN3]
  exact ⟨HS0.out.d.take9 6, HS0.out.m.take9 6, HS0.out.v.take9 9⟩)
 have HfD6 : Hid (FitD (D.take 6)) := Lib.hid fun d hd => HfD.out d (List.mem_of_mem_take hd)
 have HfM6 : Hid (∀ s ∈ M.take 6, s.length ≤ maxLen) := Lib.hid fun s hs => HfM.out s (List.mem_of_mem_take hs)
 clear HSM hX hb0 hb2 hX2 hN1 hN2 hN3 HfD HfM HS0
 generalize D.take 6 = D' at hSt HfD6
 generalize M.take 6 = M' at hSt HfM6
 generalize V.take 9 = V' at hSt
 go_wp2_with fail
 clear x0 x1 x2 f0 f1 f2
 generalize ((w2.setCell ⟨w.heap.size, 0, none⟩ (.slice A1 N1 c1)).setCell ⟨w.heap.size, 1, none⟩ (.slice A2 N2 c2)).setCell ⟨w.heap.size, 2, none⟩ (.slice A3 N3 c3) = w3 at hX3 hB3 ⊢
 have HB3 := Lib.hid hB3
 have HS3 := Lib.hid (show SchR w3 (fun b => b < w.heap.size) A1 N1 c1 A2 N2 c2 A3 N3 c3 D' M' V' from hSt.out.mv (Mv.below hB3 fun b hb => hb))
 have KX : Hid (∀ y, Below w3.heap.size w3 y → y.cell? ⟨w.heap.size, 0, none⟩ = some (.slice A1 N1 c1) ∧ y.cell? ⟨w.heap.size, 1, none⟩ = some (.slice A2 N2 c2) ∧ y.cell? ⟨w.heap.size, 2, none⟩ = some (.slice A3 N3 c3)) := Lib.hid fun y hy => by
  have h := hX3.below hy hX3.lt
  exact ⟨h.cell 0, h.cell 1, h.cell 2⟩
 obtain ⟨x0, x1, x2⟩ := KX.out w3 (Below.refl _ _)
 clear hX3 hB3 hSt

 by_cases hmay : mayS D' M' V'
 ·have HN := Lib.hid (newS_yes HS3.out HfD6.out HfM6.out hmay)
  go_wp2_with fail
  refine HN.out.mono ?_
  rintro e w4 ⟨g, F, R, rfl, hL4, hR4, hb4⟩
  have HB4 := Lib.hid (below_then HB3.out hb4)
  have HL4 := Lib.hid hL4
  have HB34 := Lib.hid hb4
  have hz4 : w3.heap.size ≤ w4.heap.size := hb4.size
  clear hb4 HN hL4 x0 x1 x2

  have hzw : w.heap.size ≤ w3.heap.size := HB3.out.size
  go_wp2_with fail
  go_loopw [7, 8] (fun u i wr => ∃ k : Nat, k ≤ len1 ∧ k ≤ 12 ∧ i = .int .i64 k ∧ Hid (∃ F GA Qs, LSt wr g F R w3.heap.size D' M' V' (GA.map entF) Qs ∧ OwnR elFct 83 2 wr w4.heap.size (fun b => b < w.heap.size) u GA ∧ (∀ q, u.ownBlock = some q → ¬ F q) ∧ (∀ f ∈ GA, fitF D' M'.length f) ∧ GA.length ≤ 8 * k) ∧ Below w3.heap.size w3 wr ∧ w4.heap.size ≤ wr.heap.size) (fun _ i _ => len1 - (intOf i).toNat)
  case atStart => exact ⟨0, Nat.zero_le _, Nat.zero_le _, rfl, Lib.hid ⟨F, [], _, HL4.out, OwnR.nil_ _ _ _, (fun q hq => by cases hq), (fun f hf => by simp at hf), Nat.le_refl _⟩, HB34.out, Nat.le_refl _⟩
  case round =>
   obtain ⟨k, hk, hk12, rfl, hS, hB, hz⟩ := hrel
   by_cases hgo : k < len1 ∧ k < 12
   ·obtain ⟨hlt, hlt12⟩ := hgo
    obtain ⟨F, GA, Qs, hst, hO, hap, hfit, hlen⟩ := hS.out
    obtain ⟨b, o, A', n', c', G, rfl, hbl, _, gk, hG, he⟩ := (KL.out w (Below.refl _ _)).at1 hlt
    have KG : Hid (∀ y, Below w.heap.size w y → y.cell? ⟨b, o + k, none⟩ = some (.slice A' n' c') ∧ HasF y (fun b => b < w.heap.size) A' n' c' G) := Lib.hid fun y hy => ⟨(hy.cell (p := ⟨b, o + k, none⟩) hbl).trans gk, hG.mv elFct_ok (Mv.below hy fun b hb => hb)⟩
    have hGl := Lib.hid hG.len
    have i0 : (0 : Int) ≤ (k : Int) := by omega
    have i1 : (k : Int) < (len1 : Int) := by omega
    have i2 : decide ((k : Int) < 12) = true := decide_eq_true (by omega)
    have HB := Lib.hid hB
    have HBw := Lib.hid (HB3.out.trans (hB.mono HB3.out.size))
    have hz3 : w3.heap.size ≤ wr.heap.size := hB.size
    have hSF : ∀ b, b < w.heap.size → ¬ F b := fun b hb hf => by have := hst.low b hf; omega
    obtain ⟨gk', hG'⟩ := KG.out wr HBw.out
    have HST := Lib.hid hst
    have HO := Lib.hid hO
    have HAp := Lib.hid hap
    have HFt := Lib.hid hfit
    have HLn := Lib.hid hlen
    clear gk hG hst hO hap hfit hlen hS hB he
    by_cases hx : (applyP D' M' V' (GA.map entF) Qs G).2 = 0
    ·have HA := Lib.hid (applyS_yes HST.out hz3 hG' hSF hx)
     have hmb := (applyP_zero hx).1
     have hgl := mayBt_len hmb
     have HFn := Lib.hid (show ∀ f ∈ GA ++ G, fitF D' M'.length f from fun f hf => by
      rcases List.mem_append.1 hf with hf | hf
      ·exact HFt.out f hf
      ·exact mayBt_fit hmb f hf)
     obtain ⟨bG, oG, _, _, rfl, _, _, _, _, _, _⟩ := hG'.at_ (k := 0) (by have := hGl.out; omega)
     clear hmb hG' hx
     go_wp2_with fail
     refine HA.out.mono ?_
     rintro e w6 ⟨rfl, F6, hs6, hc6, hf6⟩
     have HB6 := Lib.hid (HB.out.trans (hc6.below HB.out.size fun q hq => HST.out.low q hq))
     have HBw6 := Lib.hid (HB3.out.trans (HB6.out.mono HB3.out.size))
     obtain ⟨g6, hG6⟩ := KG.out w6 HBw6.out
     have HO6 := Lib.hid (OwnR.chg elFct_ok HO.out hc6 HAp.out hSF)
     have hlo := HO6.out.lt
     have hlor := HO.out.lt
     have hz6 := hc6.size
     rw [← List.map_append] at hs6
     have HS6 := Lib.hid hs6
     have HF6 := Lib.hid (show ∀ q, u7.ownBlock = some q → ¬ F6 q from fun q hq h => by
      rcases hf6 q h with h1 | h1
      ·exact HAp.out q hq h1
      ·have := (hlor q hq).2; omega)
     have HG6 := Lib.hid (hG6.mv elFct_ok (Mv.to w6 (S' := fun b => b < w.heap.size ∧ u7.ownBlock ≠ some b) fun b hb _ => ⟨hb, fun e => by have h1 := (hlo b e).1; omega⟩))
     have hl6 : Hid (GA.length + n' ≤ 1000000) := Lib.hid (by have := HLn.out; have := hGl.out; omega)
     have hbs : w4.heap.size ≤ w6.heap.size := by omega
     clear hs6 hc6 hf6 HA hG6 gk'
     go_wp2_with (at_builtin; refine wpList_appXs elFct_ok rfl _ _ rfl info_fact Tryz.underlying40 rfl (by decide) w4.heap.size (fun b => b < w.heap.size) u7 GA rfl HO6.out ⟨bG, oG, none⟩ n' c' G rfl HG6.out (fun S us y => elFct_one S _ us y) hl6.out hbs ?_)
     intro v8 w8 hO8 hG8
     have hb8 : Below w4.heap.size w6 w8 := hG8.below_ hbs fun j e => (hlo j e).1
     have hz8 := hG8.1.size
     have HN8 := Lib.hid (show (LSt w8 g F6 R w3.heap.size D' M' V' ((GA ++ G).map entF) (addsD (levN D') Qs G).1 ∧ OwnR elFct 83 2 w8 w4.heap.size (fun b => b < w.heap.size) v8 (GA ++ G) ∧ (∀ q, v8.ownBlock = some q → ¬ F6 q) ∧ (GA ++ G).length ≤ 8 * (k + 1)) ∧ Below w3.heap.size w3 w8 from
      ⟨⟨HS6.out.chg (chg_grew hG8) (fun q hq h => HF6.out q h hq) (fun q hq h => by have h1 := HL4.out.rlt q hq; have h2 := (hlo q h).1; omega), hO8, fun q hq h => by
       rcases hG8.2 q hq with h1 | h1
       ·exact HF6.out q h1 h
       ·have := HS6.out.lt h; omega, by rw [List.length_append]; have := HLn.out; have := hGl.out; omega⟩, HB6.out.trans (hb8.mono hz4)⟩)
     clear hO8 hG8 hb8 g6
     go_wp2_with fail
     go_roundw
     case rel => exact ⟨k + 1, by omega, by omega, by go_num, Lib.hid ⟨F6, GA ++ G, _, HN8.out.1.1, HN8.out.1.2.1, HN8.out.1.2.2.1, HFn.out, HN8.out.1.2.2.2⟩, HN8.out.2, by omega⟩
     case measure => simp [intOf]; omega
    ·have HA := Lib.hid (applyS_no HST.out hz3 hG' hSF rfl hx)
     obtain ⟨x, hxe⟩ : ∃ x, Hid ((applyP D' M' V' (GA.map entF) Qs G).2 = x) := ⟨_, Lib.hid rfl⟩
     rw [hxe.out] at HA hx
     have hx0 : ((x : Int) == 0) = false := by simp; omega
     clear hx hG'
     go_wp2_with fail
     refine HA.out.mono ?_
     rintro e w6 ⟨rfl, F6, hs6, hc6, hf6⟩
     have HB6 := Lib.hid (HB.out.trans (hc6.below HB.out.size fun q hq => HST.out.low q hq))
     have HO6 := Lib.hid (OwnR.chg elFct_ok HO.out hc6 HAp.out hSF)
     have hlor := HO.out.lt
     have hz6 := hc6.size
     have HS6 := Lib.hid hs6
     have HF6 := Lib.hid (show ∀ q, u7.ownBlock = some q → ¬ F6 q from fun q hq h => by
      rcases hf6 q h with h1 | h1
      ·exact HAp.out q hq h1
      ·have := (hlor q hq).2; omega)
     clear hs6 hc6 hf6 HA gk'
     go_wp2_with fail
     go_roundw
     case rel => exact ⟨k + 1, by omega, by omega, by go_num, Lib.hid ⟨F6, GA, Qs, HS6.out, HO6.out, HF6.out, HFt.out, by have := HLn.out; omega⟩, HB6.out, by omega⟩
     case measure => simp [intOf]; omega
   ·by_cases hlt : k < len1
    ·have i1 : (k : Int) < (len1 : Int) := by omega
     have i2 : decide ((k : Int) < 12) = false := decide_eq_false (by omega)
     obtain ⟨F, GA, Qs, hst, hO, hap, hfit, hlen⟩ := hS.out
     obtain ⟨Aa, ca, ea, hAll⟩ := hO.read elFct_ok
     subst ea
     have hAll : HasF wr (fun b => b < wr.heap.size) Aa GA.length ca GA := hAll.mv elFct_ok (Mv.to wr fun b _ hl => hl)
     obtain ⟨na, hna⟩ : ∃ na, GA.length = na := ⟨_, rfl⟩
     rw [hna] at hAll ⊢
     obtain ⟨x0, x1, x2⟩ := KX.out wr hB
     have HBw := Lib.hid (HB3.out.trans (hB.mono HB3.out.size))
     have HV := Lib.hid (refViews_any (HS3.out.mv (Mv.below hB (fun b hb => by have := HB3.out.size; omega))).has (by omega) (by omega))
     have HST := Lib.hid hst
     have HAll := Lib.hid hAll
     have HFit := Lib.hid hfit
     have HB := Lib.hid hB
     have hNa : na ≤ 1000 := by omega
     clear hst hO hap hfit hlen hAll hna hS hB
     go_wp2_with fail
     refine HV.out.mono ?_
     rintro e w6 ⟨⟨Av, cv, rfl, hVs⟩, hb6⟩
     have HB6 := Lib.hid (HB.out.trans (hb6.mono HB.out.size))
     have HBw6 := Lib.hid (HBw.out.trans (hb6.mono HBw.out.size))
     have HST6 := Lib.hid (HST.out.below hb6)
     have HAll6 := Lib.hid (HAll.out.mv elFct_ok (Mv.belowS hb6 _))
     have HVs := Lib.hid hVs
     obtain ⟨NV, hNV⟩ : ∃ NV, (viewsP D' V').length = NV := ⟨_, rfl⟩
     have hNV7 : NV ≤ 7 := by rw [← hNV]; exact views_few hmay
     have HNV := Lib.hid hNV
     rw [hNV] at HVs ⊢
     have hzr : wr.heap.size ≤ w6.heap.size := hb6.size
     have HM2 := Lib.hid HS3.out.m.len
     clear hb6 hVs HV HST HAll hNV x0 x1 x2
     go_wp2_with fail
     go_loopw [10, 11, 12, 13, 14, 15] (fun i _ _ _ _ _ wi => ∃ t : Nat, t ≤ NV ∧ i = .int .i64 t ∧ Below w6.heap.size w6 wi) (fun i _ _ _ _ _ _ => NV - (intOf i).toNat)
     case atStart => exact ⟨0, Nat.zero_le _, rfl, Below.refl _ _⟩
     case round =>
      obtain ⟨t, ht, rfl, hBt⟩ := hrel
      have HBt := Lib.hid hBt
      clear hBt
      by_cases hlt2 : t < NV
      ·obtain ⟨vk, hvk⟩ : ∃ vk, Hid ((viewsP D' V')[t]? = some vk) := ⟨_, Lib.hid (List.getElem?_eq_getElem (by rw [HNV.out]; exact hlt2))⟩
       have hmem := List.mem_of_getElem? hvk.out
       have j0 : (0 : Int) ≤ (t : Int) := by omega
       have j1 : (t : Int) < (NV : Int) := by omega
       have HR := Lib.hid (rowsS_any (HST6.out.below HBt.out) hvk.out)
       obtain ⟨bv, ov, A', n', c', rfl, hbv, gv, hv⟩ := HVs.out.has t hlt2
       rw [show (viewsP D' V').getD t [] = vk by rw [List.getD_eq_getElem?_getD, hvk.out]; rfl] at hv
       have KC : Hid (∀ y, Below w6.heap.size w6 y → y.cell? ⟨w.heap.size, 0, none⟩ = some (.slice A1 N1 c1) ∧ y.cell? ⟨w.heap.size, 1, none⟩ = some (.slice A2 N2 c2) ∧ y.cell? ⟨w.heap.size, 2, none⟩ = some (.slice A3 N3 c3) ∧ y.cell? ⟨bv, ov + t, none⟩ = some (.slice A' n' c')) := Lib.hid fun y hy => by
        obtain ⟨h1, h2, h3⟩ := KX.out y (HB6.out.trans (hy.mono HB6.out.size))
        exact ⟨h1, h2, h3, (hy.cell (p := ⟨bv, ov + t, none⟩) hbv).trans gv⟩
       have HRr := Lib.hid (fun (y : World) (hy : Below w6.heap.size w6 y) => by
        have h1 := refRowsS_yes (A1 := A1) (n1 := N1) (c1 := c1) (A2 := A2) (c2 := c2) (A3 := A3) (n3 := N3) (c3 := c3) HST6.out.ok HFit.out ((HAll6.out.mv elFct_ok (Mv.belowS hy _)).mv elFct_ok (Mv.to y fun b _ hl => hl)) hmem (hv.belowS hy) hNa
        rw [HM2.out] at h1
        exact h1)
       clear gv hv hmem hbv
       go_wp2_with fail
       refine HR.out.mono ?_
       rintro e w7 ⟨Lr, hLr, ⟨A7, c7, rfl, hr7⟩, hb7⟩
       have HB7 := Lib.hid (HBt.out.trans (hb7.mono HBt.out.size))
       have HLr := Lib.hid hLr
       have HR7 := Lib.hid (hr7.map (E' := elRw) (fun _ _ h => elRwO_read h))
       obtain ⟨nr, hnr⟩ : ∃ nr, Lr.length = nr := ⟨_, rfl⟩
       rw [hnr] at HR7 ⊢
       have HN := Lib.hid hnr
       obtain ⟨x0, x1, x2, gv⟩ := KC.out w7 HB7.out
       clear hLr hr7 hb7 HR hnr
       go_wp2_with fail
       go_region_held3 (fun y => y.cell? ⟨w.heap.size, 0, none⟩ = some (.slice A1 N1 c1) ∧ y.cell? ⟨w.heap.size, 1, none⟩ = some (.slice A2 N2 c2) ∧ y.cell? ⟨w.heap.size, 2, none⟩ = some (.slice A3 N3 c3) ∧ y.cell? ⟨bv, ov + t, none⟩ = some (.slice A' n' c'))
        (first
         | go_keep
         | exact KC.out _ hBB8)
        (first
         | (go_at_call 20; refine (HRr.out _ (HB7.out.trans ((below_drewN (Below.refl _ w7) 1).mono HB7.out.size))).mono ?_; rintro e w8 ⟨⟨A8, c8, L8, rfl, hL8, hr8⟩, hb8⟩; have hBB8 : Below w6.heap.size w6 w8 := (HB7.out.trans ((below_drewN (Below.refl _ w7) 1).mono HB7.out.size)).trans (hb8.mono (HB7.out.trans ((below_drewN (Below.refl _ w7) 1).mono HB7.out.size)).size)))
       obtain rfl : Lr = L8 := HLr.out.one (by rw [HM2.out]; exact hL8)
       rw [HN.out] at hr8 ⊢
       have hb78 : Below w7.heap.size w7 w8 := (below_drewN (Below.refl _ w7) 1).trans hb8
       have HSR := Lib.hid (refSameRows_yes (HR7.out.mv elRw_ok (Mv.belowS hb78 _)) hr8)
       have HB8 := Lib.hid hBB8
       clear hL8 hr8 hb8 hBB8 hb78 x0 x1 x2 gv
       go_wp2_with fail
       refine HSR.out.mono ?_
       rintro e w9 ⟨rfl, hb9⟩
       have HB9 := Lib.hid (HB8.out.trans (hb9.mono HB8.out.size))
       clear hb9 HSR
       go_wp2_with fail
       go_roundw
       case rel => exact ⟨t + 1, by omega, by go_num, HB9.out⟩
       case measure => simp [intOf]; omega
      ·have HBr := Lib.hid (HBw6.out.trans (HBt.out.mono HBw6.out.size))
       go_wp2_with fail
       refine (latLives_any _).mono ?_
       rintro y wz ⟨rfl, hBz⟩
       have HBz := Lib.hid (below_then HBr.out hBz)
       clear hBz
       go_wp2_with fail
       go_ret
       exact ⟨rfl, HBz.out⟩

    ·have i1 : ¬ (k : Int) < (len1 : Int) := by omega
     obtain ⟨F, GA, Qs, hst, hO, hap, hfit, hlen⟩ := hS.out
     obtain ⟨Aa, ca, ea, hAll⟩ := hO.read elFct_ok
     subst ea
     have hAll : HasF wr (fun b => b < wr.heap.size) Aa GA.length ca GA := hAll.mv elFct_ok (Mv.to wr fun b _ hl => hl)
     obtain ⟨na, hna⟩ : ∃ na, GA.length = na := ⟨_, rfl⟩
     rw [hna] at hAll ⊢
     obtain ⟨x0, x1, x2⟩ := KX.out wr hB
     have HBw := Lib.hid (HB3.out.trans (hB.mono HB3.out.size))
     have HV := Lib.hid (refViews_any (HS3.out.mv (Mv.below hB (fun b hb => by have := HB3.out.size; omega))).has (by omega) (by omega))
     have HST := Lib.hid hst
     have HAll := Lib.hid hAll
     have HFit := Lib.hid hfit
     have HB := Lib.hid hB
     have hNa : na ≤ 1000 := by omega
     clear hst hO hap hfit hlen hAll hna hS hB
     go_wp2_with fail
     refine HV.out.mono ?_
     rintro e w6 ⟨⟨Av, cv, rfl, hVs⟩, hb6⟩
     have HB6 := Lib.hid (HB.out.trans (hb6.mono HB.out.size))
     have HBw6 := Lib.hid (HBw.out.trans (hb6.mono HBw.out.size))
     have HST6 := Lib.hid (HST.out.below hb6)
     have HAll6 := Lib.hid (HAll.out.mv elFct_ok (Mv.belowS hb6 _))
     have HVs := Lib.hid hVs
     obtain ⟨NV, hNV⟩ : ∃ NV, (viewsP D' V').length = NV := ⟨_, rfl⟩
     have hNV7 : NV ≤ 7 := by rw [← hNV]; exact views_few hmay
     have HNV := Lib.hid hNV
     rw [hNV] at HVs ⊢
     have hzr : wr.heap.size ≤ w6.heap.size := hb6.size
     have HM2 := Lib.hid HS3.out.m.len
     clear hb6 hVs HV HST HAll hNV x0 x1 x2
     go_wp2_with fail
     go_loopw [10, 11, 12, 13, 14, 15] (fun i _ _ _ _ _ wi => ∃ t : Nat, t ≤ NV ∧ i = .int .i64 t ∧ Below w6.heap.size w6 wi) (fun i _ _ _ _ _ _ => NV - (intOf i).toNat)
     case atStart => exact ⟨0, Nat.zero_le _, rfl, Below.refl _ _⟩
     case round =>
      obtain ⟨t, ht, rfl, hBt⟩ := hrel
      have HBt := Lib.hid hBt
      clear hBt
      by_cases hlt2 : t < NV
      ·obtain ⟨vk, hvk⟩ : ∃ vk, Hid ((viewsP D' V')[t]? = some vk) := ⟨_, Lib.hid (List.getElem?_eq_getElem (by rw [HNV.out]; exact hlt2))⟩
       have hmem := List.mem_of_getElem? hvk.out
       have j0 : (0 : Int) ≤ (t : Int) := by omega
       have j1 : (t : Int) < (NV : Int) := by omega
       have HR := Lib.hid (rowsS_any (HST6.out.below HBt.out) hvk.out)
       obtain ⟨bv, ov, A', n', c', rfl, hbv, gv, hv⟩ := HVs.out.has t hlt2
       rw [show (viewsP D' V').getD t [] = vk by rw [List.getD_eq_getElem?_getD, hvk.out]; rfl] at hv
       have KC : Hid (∀ y, Below w6.heap.size w6 y → y.cell? ⟨w.heap.size, 0, none⟩ = some (.slice A1 N1 c1) ∧ y.cell? ⟨w.heap.size, 1, none⟩ = some (.slice A2 N2 c2) ∧ y.cell? ⟨w.heap.size, 2, none⟩ = some (.slice A3 N3 c3) ∧ y.cell? ⟨bv, ov + t, none⟩ = some (.slice A' n' c')) := Lib.hid fun y hy => by
        obtain ⟨h1, h2, h3⟩ := KX.out y (HB6.out.trans (hy.mono HB6.out.size))
        exact ⟨h1, h2, h3, (hy.cell (p := ⟨bv, ov + t, none⟩) hbv).trans gv⟩
       have HRr := Lib.hid (fun (y : World) (hy : Below w6.heap.size w6 y) => by
        have h1 := refRowsS_yes (A1 := A1) (n1 := N1) (c1 := c1) (A2 := A2) (c2 := c2) (A3 := A3) (n3 := N3) (c3 := c3) HST6.out.ok HFit.out ((HAll6.out.mv elFct_ok (Mv.belowS hy _)).mv elFct_ok (Mv.to y fun b _ hl => hl)) hmem (hv.belowS hy) hNa
        rw [HM2.out] at h1
        exact h1)
       clear gv hv hmem hbv
       go_wp2_with fail
       refine HR.out.mono ?_
       rintro e w7 ⟨Lr, hLr, ⟨A7, c7, rfl, hr7⟩, hb7⟩
       have HB7 := Lib.hid (HBt.out.trans (hb7.mono HBt.out.size))
       have HLr := Lib.hid hLr
       have HR7 := Lib.hid (hr7.map (E' := elRw) (fun _ _ h => elRwO_read h))
       obtain ⟨nr, hnr⟩ : ∃ nr, Lr.length = nr := ⟨_, rfl⟩
       rw [hnr] at HR7 ⊢
       have HN := Lib.hid hnr
       obtain ⟨x0, x1, x2, gv⟩ := KC.out w7 HB7.out
       clear hLr hr7 hb7 HR hnr
       go_wp2_with fail
       go_region_held3 (fun y => y.cell? ⟨w.heap.size, 0, none⟩ = some (.slice A1 N1 c1) ∧ y.cell? ⟨w.heap.size, 1, none⟩ = some (.slice A2 N2 c2) ∧ y.cell? ⟨w.heap.size, 2, none⟩ = some (.slice A3 N3 c3) ∧ y.cell? ⟨bv, ov + t, none⟩ = some (.slice A' n' c'))
        (first
         | go_keep
         | exact KC.out _ hBB8)
        (first
         | (go_at_call 20; refine (HRr.out _ (HB7.out.trans ((below_drewN (Below.refl _ w7) 1).mono HB7.out.size))).mono ?_; rintro e w8 ⟨⟨A8, c8, L8, rfl, hL8, hr8⟩, hb8⟩; have hBB8 : Below w6.heap.size w6 w8 := (HB7.out.trans ((below_drewN (Below.refl _ w7) 1).mono HB7.out.size)).trans (hb8.mono (HB7.out.trans ((below_drewN (Below.refl _ w7) 1).mono HB7.out.size)).size)))
       obtain rfl : Lr = L8 := HLr.out.one (by rw [HM2.out]; exact hL8)
       rw [HN.out] at hr8 ⊢
       have hb78 : Below w7.heap.size w7 w8 := (below_drewN (Below.refl _ w7) 1).trans hb8
       have HSR := Lib.hid (refSameRows_yes (HR7.out.mv elRw_ok (Mv.belowS hb78 _)) hr8)
       have HB8 := Lib.hid hBB8
       clear hL8 hr8 hb8 hBB8 hb78 x0 x1 x2 gv
       go_wp2_with fail
       refine HSR.out.mono ?_
       rintro e w9 ⟨rfl, hb9⟩
       have HB9 := Lib.hid (HB8.out.trans (hb9.mono HB8.out.size))
       clear hb9 HSR
       go_wp2_with fail
       go_roundw
       case rel => exact ⟨t + 1, by omega, by go_num, HB9.out⟩
       case measure => simp [intOf]; omega
      ·have HBr := Lib.hid (HBw6.out.trans (HBt.out.mono HBw6.out.size))
       go_wp2_with fail
       refine (latLives_any _).mono ?_
       rintro y wz ⟨rfl, hBz⟩
       have HBz := Lib.hid (below_then HBr.out hBz)
       clear hBz
       go_wp2_with fail
       go_ret
       exact ⟨rfl, HBz.out⟩

 ·have HN := Lib.hid (newL_no HS3.out HfD6.out HfM6.out (by omega) hmay)
  go_wp2_with fail
  refine HN.out.mono ?_
  rintro e w4 ⟨rfl, hb4⟩
  have HB4 := Lib.hid (below_then HB3.out hb4)
  clear hb4 HN

  go_wp2_with fail
  refine (latLives_any _).mono ?_
  rintro y wz ⟨rfl, hBz⟩
  have HBz := Lib.hid (below_then HB4.out hBz)
  clear hBz
  go_wp2_with fail
  go_ret
  exact ⟨rfl, HBz.out⟩
end Go.Proofs.YtmepdkdeanbbaaaGreat.latticeCells
