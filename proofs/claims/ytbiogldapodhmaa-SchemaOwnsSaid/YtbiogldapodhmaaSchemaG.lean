/- Layer 8's statements: few of each, the walk. -/
import Derived.Test.YtbiogldapodhmaaSchemaF
import Derived.Deep.DeepCutAuto
namespace Go.Proofs.Ytbiogldapodhmaa
open Go.RowKit

abbrev zS : Array Value := #[.slice none 0 0, .slice none 0 0, .slice none 0 0]
set_option maxRecDepth 100000 in
set_option maxHeartbeats 4000000 in
theorem few8_any {A1 A2 A3 : Option Addr} {n1 c1 n2 c2 n3 c3 : Nat} {D : List PDim} {M : List Txt} {V : List (List Int)} {w : World} {C : Nat} (h : HasS w C A1 n1 c1 A2 n2 c2 A3 n3 c3 D M V) (hC : C ≤ w.heap.size) :
    Calls Try.prog 10 #[schV A1 n1 c1 A2 n2 c2 A3 n3 c3] w fun e w' => (∃ v1 v2 v3, e = .returned (.agg #[v1, v2, v3]) ∧ OwnDs w' w.heap.size C v1 (fewD D 8) ∧ OwnT w' w.heap.size v2 (M.take 8) ∧ OwnL w' w.heap.size C 30 v3 (fewV V 12)) ∧ Below w.heap.size w w' := by
  have hLD := Lib.hid h.d.len
  have hLM := Lib.hid h.m.len
  have hLV := Lib.hid h.v.len
  have hmD := h.d.lenMax
  have hmM := h.m.lenMax
  have hmV := h.v.capMax
  have hcV := h.v.cap
  have hb3 := below_a3 w (.cells #[.slice A1 n1 c1, .slice A2 n2 c2, .slice A3 n3 c3] 26) (.cells zS 26) (.cells zS 26)
  have hS := ((Block.new w 26 #[.slice A1 n1 c1, .slice A2 n2 c2, .slice A3 n3 c3]).alloc (.cells zS 26)).alloc (.cells zS 26)
  have hR := (Block.new (w.alloc (.cells #[.slice A1 n1 c1, .slice A2 n2 c2, .slice A3 n3 c3] 26)) 26 zS).alloc (.cells zS 26)
  have hO := Block.new ((w.alloc (.cells #[.slice A1 n1 c1, .slice A2 n2 c2, .slice A3 n3 c3] 26)).alloc (.cells zS 26)) 26 zS
  rw [World.size_alloc] at hR
  rw [World.size_alloc, World.size_alloc] at hO
  go_enter Try.func10, Try.ntmps10
  go_wp2_with fail
  generalize ((w.alloc (.cells #[.slice A1 n1 c1, .slice A2 n2 c2, .slice A3 n3 c3] 26)).alloc (.cells zS 26)).alloc (.cells zS 26) = w0 at hb3 hS hR hO ⊢
  have hT0 : St w0 (w.heap.size + 1 + 1) C w0 (.slice none 0 0) (.slice none 0 0) (.slice none 0 0) (fewD D 0) (M.take 0) (fewV V 0) :=
    ⟨hO, by simpa [fewD] using OwnDs.nil_ w0 _ _, by simpa using OwnT.nil_ w0 _, by simpa [fewV] using OwnL.nil_ w0 _ _ _, Below.refl _ _, by omega⟩
  have hK := Lib.hid (show ∀ W, Below (w.heap.size + 1 + 1) w0 W → (W.cell? ⟨w.heap.size, 0, none⟩ = some (.slice A1 n1 c1) ∧ W.cell? ⟨w.heap.size, 1, none⟩ = some (.slice A2 n2 c2) ∧ W.cell? ⟨w.heap.size, 2, none⟩ = some (.slice A3 n3 c3)) ∧ Block W (w.heap.size + 1) 26 zS ∧ HasS W C A1 n1 c1 A2 n2 c2 A3 n3 c3 D M V from fun W hW => by
    have hSW := hS.below hW (by omega)
    exact ⟨⟨hSW.cell 0, hSW.cell 1, hSW.cell 2⟩, hR.below hW (by omega), h.below (hb3.trans (hW.mono (by omega))) hC⟩)
  clear h hS hR hO
  go_loopw [4] (fun i wr => ∃ (k : Nat) (v1 : Value), k ≤ n1 ∧ k ≤ 8 ∧ i = .int .i64 k ∧ St w0 (w.heap.size + 1 + 1) C wr v1 (.slice none 0 0) (.slice none 0 0) (fewD D k) (M.take 0) (fewV V 0)) (fun i _ => n1 - (intOf i).toNat)
  case atStart => exact ⟨0, _, Nat.zero_le _, Nat.zero_le _, rfl, hT0⟩
  case round =>
    obtain ⟨k, v1, hk, hk8, rfl, hT⟩ := hrel
    clear hT0
    obtain ⟨⟨s0, s1, s2⟩, _, hW⟩ := hK.out wr hT.bel
    go_upto_region 3 with fail
    go_cut [16] (fun c wx => wx = wr ∧ ((c = .bool true ∧ k < n1 ∧ k < 8) ∨ (c = .bool false ∧ ¬ (k < n1 ∧ k < 8))))
    case first =>
      by_cases h1 : k < n1
      · have h1i : (k : Int) < (n1 : Int) := by omega
        by_cases h2 : k < 8
        · have h2i : (k : Int) < 8 := by omega
          go_wp2_with fail
          go_meet
          exact ⟨rfl, .inl ⟨rfl, h1, h2⟩⟩
        · have h2i : ¬ (k : Int) < 8 := by omega
          go_wp2_with fail
          go_meet
          exact ⟨rfl, .inr ⟨rfl, fun h => h2 h.2⟩⟩
      · have h1i : ¬ (k : Int) < (n1 : Int) := by omega
        go_wp2_with fail
        go_meet
        exact ⟨rfl, .inr ⟨rfl, fun h => h1 h.1⟩⟩
    case rest =>
      obtain ⟨hw, hc⟩ := hcut
      rw [hw]
      clear hw
      rcases hc with ⟨rfl, hlt, hlt8⟩ | ⟨rfl, hno⟩
      · obtain ⟨b, o, x, A', n', c', L, rfl, hb, g0, g1, hTx, he⟩ := hW.d.at_ hlt
        have i0 : (0 : Int) ≤ (k : Int) := by omega
        have i1 : (k : Int) < (n1 : Int) := by omega
        have hcap := hTx.cap
        have hcm := hTx.capMax
        have hlb := Lib.hid (fewD_len (D := D) (k := k) hk8)
        have HF := Lib.hid (fewD_snoc (by have := hLD.out; omega) he.out)
        obtain ⟨X1, Y1, Z1, rfl⟩ : ∃ A n c, v1 = .slice A n c := by obtain ⟨A, c, e⟩ := hT.r1.shape; exact ⟨A, _, c, e⟩
        clear hW s1 s2
        by_cases h8 : (8 : Int) < (n' : Int)
        · have h9 : (8 : Int) ≤ (c' : Int) := by omega
          have hTc := hTx.take_ 8 (by omega)
          clear hTx
          have hd := Block.new wr 42 #[.string ⟨x.toArray⟩, .slice A' 8 c']
          have hT1 := hT.below (below_a1 wr (.cells #[.string ⟨x.toArray⟩, .slice A' 8 c'] 42))
          have p0 : (wr.alloc (.cells #[.string ⟨x.toArray⟩, .slice A' 8 c'] 42)).cell? ⟨w.heap.size + 1 + 1, 0, none⟩ = some (.slice X1 Y1 Z1) := hT1.blk.cell 0
          have hT2 := hT1.below (below_a1 _ (.cells #[.string ⟨x.toArray⟩, .slice A' 8 c'] 42))
          have hTc2 : HasT ((wr.alloc (.cells #[.string ⟨x.toArray⟩, .slice A' 8 c'] 42)).alloc (.cells #[.string ⟨x.toArray⟩, .slice A' 8 c'] 42)) C A' 8 c' (L.take 8) := hTc.below (below_a2 wr _ _) (by have := hT.le; omega)
          have hz2 := hT2.le
          have hcd := Lib.hid (cell_two_d (wr.alloc (.cells #[.string ⟨x.toArray⟩, .slice A' 8 c'] 42)) (.string ⟨x.toArray⟩) (.slice A' 8 c') 42 (wr.heap.size + 1) (by simp))
          clear hT hT1
          go_wp2_with (at_builtin; refine wpList_appD rfl _ _ rfl (w.heap.size + 1 + 1 + 1) C _ _ rfl hT2.r1 _ rfl x A' 8 c' (L.take 8) hcd.out hTc2 hlb.out hz2 (by omega) ?_)
          intro v' w5 hO5 hG5 _
          obtain ⟨hb5, hT5⟩ := hT2.app1 hO5 hG5
          rw [HF.out] at hT5
          obtain ⟨A9, c9, e9⟩ := hO5.shape
          generalize (fewD D k ++ [(x, L.take 8)]).length = N9 at e9
          subst e9
          have p5 : w5.cell? ⟨w.heap.size + 1 + 1, 0, none⟩ = some (.slice X1 Y1 Z1) := hb5.cell 0
          have f5 := hb5.free 0
          have HT := Lib.hid hT5
          clear hO5 hG5 hb5 hT5 hT2 hTc2 hTc p0 hd g0 g1 s0 hcd
          go_wp2_with fail
          go_roundw
          case rel => exact ⟨k + 1, _, by omega, by omega, by go_num, HT.out⟩
          case measure => simp [intOf]; omega
        · have hTc : HasT wr C A' n' c' (L.take 8) := by rw [List.take_of_length_le (by have := hTx.len; omega)]; exact hTx
          clear hTx
          have hd := Block.new wr 42 #[.string ⟨x.toArray⟩, .slice A' n' c']
          have hT1 := hT.below (below_a1 wr (.cells #[.string ⟨x.toArray⟩, .slice A' n' c'] 42))
          have p0 : (wr.alloc (.cells #[.string ⟨x.toArray⟩, .slice A' n' c'] 42)).cell? ⟨w.heap.size + 1 + 1, 0, none⟩ = some (.slice X1 Y1 Z1) := hT1.blk.cell 0
          have hT2 := hT1.below (below_a1 _ (.cells #[.string ⟨x.toArray⟩, .slice A' n' c'] 42))
          have hTc2 : HasT ((wr.alloc (.cells #[.string ⟨x.toArray⟩, .slice A' n' c'] 42)).alloc (.cells #[.string ⟨x.toArray⟩, .slice A' n' c'] 42)) C A' n' c' (L.take 8) := hTc.below (below_a2 wr _ _) (by have := hT.le; omega)
          have hz2 := hT2.le
          have hcd := Lib.hid (cell_two_d (wr.alloc (.cells #[.string ⟨x.toArray⟩, .slice A' n' c'] 42)) (.string ⟨x.toArray⟩) (.slice A' n' c') 42 (wr.heap.size + 1) (by simp))
          clear hT hT1
          go_wp2_with (at_builtin; refine wpList_appD rfl _ _ rfl (w.heap.size + 1 + 1 + 1) C _ _ rfl hT2.r1 _ rfl x A' n' c' (L.take 8) hcd.out hTc2 hlb.out hz2 (by omega) ?_)
          intro v' w5 hO5 hG5 _
          obtain ⟨hb5, hT5⟩ := hT2.app1 hO5 hG5
          rw [HF.out] at hT5
          obtain ⟨A9, c9, e9⟩ := hO5.shape
          generalize (fewD D k ++ [(x, L.take 8)]).length = N9 at e9
          subst e9
          have p5 : w5.cell? ⟨w.heap.size + 1 + 1, 0, none⟩ = some (.slice X1 Y1 Z1) := hb5.cell 0
          have f5 := hb5.free 0
          have HT := Lib.hid hT5
          clear hO5 hG5 hb5 hT5 hT2 hTc2 hTc p0 hd g0 g1 s0 hcd
          go_wp2_with fail
          go_roundw
          case rel => exact ⟨k + 1, _, by omega, by omega, by go_num, HT.out⟩
          case measure => simp [intOf]; omega
      · have HT : Hid (fewD D k = fewD D 8) := Lib.hid (by unfold fewD; rw [take_min hLD.out hk hk8 hno])
        rw [HT.out] at hT
        have hT1 := hT
        clear hT hk hk8 hno HT hW s0 s1 s2
        go_wp2_with fail
        go_loopw [6] (fun i wr => ∃ (k : Nat) (v2 : Value), k ≤ n2 ∧ k ≤ 8 ∧ i = .int .i64 k ∧ St w0 (w.heap.size + 1 + 1) C wr v1 v2 (.slice none 0 0) (fewD D 8) (M.take k) (fewV V 0)) (fun i _ => n2 - (intOf i).toNat)
        case atStart => exact ⟨0, _, Nat.zero_le _, Nat.zero_le _, rfl, hT1⟩
        case round =>
          obtain ⟨k, v2, hk, hk8, rfl, hT⟩ := hrel
          clear hT1
          obtain ⟨⟨s0, s1, s2⟩, _, hW⟩ := hK.out wr hT.bel
          go_upto_region 10 with fail
          go_cut [46] (fun c wx => wx = wr ∧ ((c = .bool true ∧ k < n2 ∧ k < 8) ∨ (c = .bool false ∧ ¬ (k < n2 ∧ k < 8))))
          case first =>
            by_cases h1 : k < n2
            · have h1i : (k : Int) < (n2 : Int) := by omega
              by_cases h2 : k < 8
              · have h2i : (k : Int) < 8 := by omega
                go_wp2_with fail
                go_meet
                exact ⟨rfl, .inl ⟨rfl, h1, h2⟩⟩
              · have h2i : ¬ (k : Int) < 8 := by omega
                go_wp2_with fail
                go_meet
                exact ⟨rfl, .inr ⟨rfl, fun h => h2 h.2⟩⟩
            · have h1i : ¬ (k : Int) < (n2 : Int) := by omega
              go_wp2_with fail
              go_meet
              exact ⟨rfl, .inr ⟨rfl, fun h => h1 h.1⟩⟩
          case rest =>
            obtain ⟨hw, hc⟩ := hcut
            rw [hw]
            clear hw
            rcases hc with ⟨rfl, hlt, hlt8⟩ | ⟨rfl, hno⟩
            · obtain ⟨b, o, x, rfl, hb, g0, ex⟩ := hW.m.at_ hlt
              have i0 : (0 : Int) ≤ (k : Int) := by omega
              have i1 : (k : Int) < (n2 : Int) := by omega
              obtain ⟨X2, Y2, Z2, rfl, _⟩ := OwnT.formN hT.r2
              have hlb : Hid ((M.take k).length ≤ 1000000) := Lib.hid (Nat.le_trans (List.length_take_le k _) (by omega))
              have HF := Lib.hid (takeM_snoc (by have := hLM.out; omega) ex.out)
              have hT2 := (hT.drewN 1).below (below_a1 _ (.cells #[.string ⟨x.toArray⟩] 9))
              have HT2 := Lib.hid (show St w0 (w.heap.size + 1 + 1) C (wr.drew.alloc (.cells #[.string ⟨x.toArray⟩] 9)) v1 (.slice X2 Y2 Z2) (.slice none 0 0) (fewD D 8) (M.take k) (fewV V 0) from hT2)
              have HO := Lib.hid HT2.out.r2
              have HC := Lib.hid (cell_litS wr.drew (.string ⟨x.toArray⟩) 9 wr.heap.size rfl)
              have HS : Hid (w.heap.size + 1 + 1 + 1 ≤ (wr.drew.alloc (.cells #[.string ⟨x.toArray⟩] 9)).heap.size) := Lib.hid HT2.out.le
              have p0 : wr.cell? ⟨w.heap.size + 1 + 1, 1, none⟩ = some (.slice X2 Y2 Z2) := hT.blk.cell 1
              have pf := hT.blk.free 1
              have pa : (wr.alloc (.cells #[.string ⟨x.toArray⟩] 9)).cell? ⟨w.heap.size + 1 + 1, 1, none⟩ = some (.slice X2 Y2 Z2) := HT2.out.blk.cell 1
              clear hW s0 s2 hT hT2
              go_wp2_with fail
              go_region_law (refine step_appT rfl _ _ rfl (w.heap.size + 1 + 1 + 1) _ _ rfl HO.out _ rfl x HC.out hlb.out HS.out ?_; intro v' w5 hO5 hG5; obtain ⟨hb5, hT5⟩ := HT2.out.app2 hO5 hG5; obtain ⟨A9, N9, c9, e9, _⟩ := hO5.formN; subst e9; have p5 : w5.cell? ⟨w.heap.size + 1 + 1, 1, none⟩ = some (.slice X2 Y2 Z2) := hb5.cell 1; have f5 := hb5.free 1)
              all_goals
                rw [HF.out] at hT5
                have HT := Lib.hid hT5
                clear hO5 hG5 hb5 hT5 HT2 HO p0 pf pa g0 s1 HC HS p5 f5
                go_wp2_with fail
                go_roundw
                case rel => exact ⟨k + 1, _, by omega, by omega, by go_num, HT.out⟩
                case measure => simp [intOf]; omega
            · have HT : Hid (M.take k = M.take 8) := Lib.hid (take_min hLM.out hk hk8 hno)
              rw [HT.out] at hT
              have hT1 := hT
              clear hT hk hk8 hno HT hW s0 s1 s2
              go_wp2_with fail
              go_loopw [7] (fun i wr => ∃ (k : Nat) (v3 : Value), k ≤ n3 ∧ k ≤ 12 ∧ i = .int .i64 k ∧ St w0 (w.heap.size + 1 + 1) C wr v1 v2 v3 (fewD D 8) (M.take 8) (fewV V k)) (fun i _ => n3 - (intOf i).toNat)
              case atStart => exact ⟨0, _, Nat.zero_le _, Nat.zero_le _, rfl, hT1⟩
              case round =>
                obtain ⟨k, v3, hk, hk8, rfl, hT⟩ := hrel
                clear hT1
                obtain ⟨⟨s0, s1, s2⟩, hR, hW⟩ := hK.out wr hT.bel
                go_upto_region 14 with fail
                go_cut [67] (fun c wx => wx = wr ∧ ((c = .bool true ∧ k < n3 ∧ k < 12) ∨ (c = .bool false ∧ ¬ (k < n3 ∧ k < 12))))
                case first =>
                  by_cases h1 : k < n3
                  · have h1i : (k : Int) < (n3 : Int) := by omega
                    by_cases h2 : k < 12
                    · have h2i : (k : Int) < 12 := by omega
                      go_wp2_with fail
                      go_meet
                      exact ⟨rfl, .inl ⟨rfl, h1, h2⟩⟩
                    · have h2i : ¬ (k : Int) < 12 := by omega
                      go_wp2_with fail
                      go_meet
                      exact ⟨rfl, .inr ⟨rfl, fun h => h2 h.2⟩⟩
                  · have h1i : ¬ (k : Int) < (n3 : Int) := by omega
                    go_wp2_with fail
                    go_meet
                    exact ⟨rfl, .inr ⟨rfl, fun h => h1 h.1⟩⟩
                case rest =>
                  obtain ⟨hw, hc⟩ := hcut
                  rw [hw]
                  clear hw
                  rcases hc with ⟨rfl, hlt, hlt8⟩ | ⟨rfl, hno⟩
                  · obtain ⟨b, o, A', n', c', l, rfl, hb, g0, hl, ex⟩ := hW.v.at_ hlt
                    have i0 : (0 : Int) ≤ (k : Int) := by omega
                    have i1 : (k : Int) < (n3 : Int) := by omega
                    obtain ⟨X3, Y3, Z3, rfl⟩ := hT.r3.shape
                    have hlb := Lib.hid (fewV_len (V := V) (k := k) hk8)
                    have HF := Lib.hid (fewV_snoc (by have := hLV.out; omega) ex.out)
                    obtain ⟨m, hm⟩ : ∃ m, Hid (m = min n' 8) := ⟨_, Lib.hid rfl⟩
                    have hT2 := (hT.drewN 1).below (below_a1 _ (.cells #[.slice A' m c'] 30))
                    have HT2 := Lib.hid (show St w0 (w.heap.size + 1 + 1) C (wr.drew.alloc (.cells #[.slice A' m c'] 30)) v1 v2 (.slice X3 Y3 Z3) (fewD D 8) (M.take 8) (fewV V k) from hT2)
                    have HO := Lib.hid HT2.out.r3
                    have HC := Lib.hid (cell_litS wr.drew (.slice A' m c') 30 wr.heap.size rfl)
                    have HS : Hid (w.heap.size + 1 + 1 + 1 ≤ (wr.drew.alloc (.cells #[.slice A' m c'] 30)).heap.size) := Lib.hid HT2.out.le
                    have HI := Lib.hid (show HasI (wr.drew.alloc (.cells #[.slice A' m c'] 30)) C A' m c' (l.take 8) from ((hl.drewN 1).alloc (by show C ≤ wr.heap.size; have := hT.le; omega) _).cut8 hm)
                    have HCut := Lib.hid (fun W (hW : HasI W C A' n' c' l) => cutL_is hW hm)
                    have HL := Lib.hid hl.drew
                    have p0 : wr.cell? ⟨w.heap.size + 1 + 1, 2, none⟩ = some (.slice X3 Y3 Z3) := hT.blk.cell 2
                    have pf := hT.blk.free 2
                    have pa : (wr.alloc (.cells #[.slice A' m c'] 30)).cell? ⟨w.heap.size + 1 + 1, 2, none⟩ = some (.slice X3 Y3 Z3) := HT2.out.blk.cell 2
                    clear hW s0 s1 hT hT2 hl hR
                    go_wp2_with fail
                    go_region_law (first
                      | (refine step_appL rfl _ _ rfl (w.heap.size + 1 + 1 + 1) C _ _ rfl HO.out _ rfl A' m c' (l.take 8) HC.out HI.out hlb.out HS.out (by omega) ?_; intro v' w5 hO5 hG5; obtain ⟨hb5, hT5⟩ := HT2.out.app3 hO5 hG5; obtain ⟨A9, N9, c9, e9⟩ := hO5.shape; subst e9; have p5 : w5.cell? ⟨w.heap.size + 1 + 1, 2, none⟩ = some (.slice X3 Y3 Z3) := hb5.cell 2; have f5 := hb5.free 2)
                      | (go_simp; go_at_call 14; refine (HCut.out _ HL.out).mono ?_; rintro e wq ⟨rfl, rfl⟩))
                    all_goals
                      rw [HF.out] at hT5
                      have HT := Lib.hid hT5
                      clear hO5 hG5 hb5 hT5 HT2 HO p0 pf pa g0 s2 HC HS HI HCut HL p5 f5
                      go_wp2_with fail
                      go_roundw
                      case rel => exact ⟨k + 1, _, by omega, by omega, by go_num, HT.out⟩
                      case measure => simp [intOf]; omega
                  · have HT : Hid (fewV V k = fewV V 12) := Lib.hid (by unfold fewV; rw [take_min hLV.out hk hk8 hno])
                    rw [HT.out] at hT
                    have t0 : wr.cell? ⟨w.heap.size + 1 + 1, 0, none⟩ = some v1 := hT.blk.cell 0
                    have t1 : wr.cell? ⟨w.heap.size + 1 + 1, 1, none⟩ = some v2 := hT.blk.cell 1
                    have t2 : wr.cell? ⟨w.heap.size + 1 + 1, 2, none⟩ = some v3 := hT.blk.cell 2
                    have r0 : wr.cell? ⟨w.heap.size + 1, 0, none⟩ = some (.slice none 0 0) := hR.cell 0
                    have r1 : wr.cell? ⟨w.heap.size + 1, 1, none⟩ = some (.slice none 0 0) := hR.cell 1
                    have r2 : wr.cell? ⟨w.heap.size + 1, 2, none⟩ = some (.slice none 0 0) := hR.cell 2
                    have f0 := hR.free 0
                    have f1 := hR.free 1
                    have f2 := hR.free 2
                    obtain ⟨X1, e1, q1⟩ := hT.r1.shape
                    obtain ⟨X2, m2, e2, q2, _⟩ := OwnT.formN hT.r2
                    obtain ⟨X3, m3, e3, q3⟩ := hT.r3.shape
                    generalize (fewD D 8).length = m1 at q1
                    subst q1 q2 q3
                    have hRR := Lib.hid (hR.put3_ (.slice X1 m1 e1) (.slice X2 m2 e2) (.slice X3 m3 e3))
                    have hB := Lib.hid (below_put3 (hb3.trans (hT.bel.mono (show w.heap.size ≤ w.heap.size + 1 + 1 by omega))) (Nat.le_succ w.heap.size) (.slice X1 m1 e1) (.slice X2 m2 e2) (.slice X3 m3 e3))
                    have k1 := Lib.hid ((((hT.r1.put (g := w.heap.size + 1) (i := 0) (u := .slice X1 m1 e1) (by omega) (by omega)).put (g := w.heap.size + 1) (i := 1) (u := .slice X2 m2 e2) (by omega) (by omega)).put (g := w.heap.size + 1) (i := 2) (u := .slice X3 m3 e3) (by omega) (by omega)).low (show w.heap.size ≤ w.heap.size + 1 + 1 + 1 by omega))
                    have k2 := Lib.hid ((((hT.r2.put (g := w.heap.size + 1) (i := 0) (u := .slice X1 m1 e1) (by omega)).put (g := w.heap.size + 1) (i := 1) (u := .slice X2 m2 e2) (by omega)).put (g := w.heap.size + 1) (i := 2) (u := .slice X3 m3 e3) (by omega)).low (show w.heap.size ≤ w.heap.size + 1 + 1 + 1 by omega))
                    have k3 := Lib.hid ((((hT.r3.put (g := w.heap.size + 1) (i := 0) (u := .slice X1 m1 e1) (by omega) (by omega)).put (g := w.heap.size + 1) (i := 1) (u := .slice X2 m2 e2) (by omega) (by omega)).put (g := w.heap.size + 1) (i := 2) (u := .slice X3 m3 e3) (by omega) (by omega)).low (show w.heap.size ≤ w.heap.size + 1 + 1 + 1 by omega))
                    clear hT hR hW s0 s1 s2 hb3 hK
                    go_wp2_with fail
                    refine bodyPost_ret (results_block1 rfl _ _ (w.heap.size + 1) _ _ rfl hRR.out Try.underlying26 rfl info_schema) rfl ?_
                    exact ⟨⟨_, _, _, rfl, k1.out, k2.out, k3.out⟩, hB.out⟩
end Go.Proofs.Ytbiogldapodhmaa
