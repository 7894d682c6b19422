/- SchemaT -/
import Derived.Test.YtfddaegepmdohaaJ7
import Derived.Test.YtfddaegepmdohaaJ19
import Derived.Test.YtfddaegepmdohaaJ20
namespace Go.Proofs.Ytfddaegepmdohaa
set_option maxRecDepth 100000
open Go.RowKit Go.Maps

theorem strK_law : Keyed Try.prog 9 := string_keyed Try.underlying9
theorem strV_inj {a b : Txt} (h : strV a = strV b) : a = b := by
  simp only [strV, Value.string.injEq, ByteArray.mk.injEq] at h
  simpa using h
theorem nodup_map {α β : Type} {f : α → β} (hf : ∀ a b, f a = f b → a = b) {l : List α} : (l.map f).Nodup ↔ l.Nodup := by
  unfold List.Nodup
  rw [List.pairwise_map]
  constructor
  · exact fun h => h.imp fun hne e => hne (by rw [e])
  · exact fun h => h.imp fun hne e => hne (hf _ _ e)
theorem makeSet_s (w : World) : (Instr.makeMap 89 none).run Try.prog w = .ok (.map (some w.heap.size)) (w.alloc (.map #[] 0)) := run_makeMap _ w
theorem take_mapV {l : List Txt} {k : Nat} {x : Txt} (hk : k < l.length) (e : x = l.getD k []) : (l.take k).map strV ++ [strV x] = (l.take (k + 1)).map strV := by
  rw [List.take_succ_eq_append_getElem hk, List.map_append, e, List.getD_eq_getElem?_getD, List.getElem?_eq_getElem hk]
  rfl
set_option maxRecDepth 100000 in
set_option maxHeartbeats 1000000 in
/-- twice, of texts. -/
theorem twiceT_any {A : Option Addr} {n c : Nat} {L : List Txt} {w : World} (h : HasT w w.heap.size A n c L) (hn : n ≤ 1000) (hm : ∀ s ∈ L, s.length ≤ maxLen) :
    Calls Try.prog 55 #[.slice A n c] w fun e w' => e = .returned (.bool (decide (¬ L.Nodup))) ∧ Below w.heap.size w w' := by
  have HL := Lib.hid h.len
  have HM := Lib.hid hm
  have hmk := makeSet_s
  clear hm
  go_enter Try.func55, Try.ntmps55
  go_wp2_with fail
  have hK0 := HasK.made w 9
  have hb0 := below_a1 w (.map #[] 0)
  clear hmk
  generalize w.alloc (.map #[] 0) = w1 at hK0 hb0 ⊢
  go_loopw [9] (fun i wr => ∃ k : Nat, k ≤ n ∧ i = .int .i64 k ∧ HasK wr 9 w.heap.size ((L.take k).map strV) ∧ Below w.heap.size w wr) (fun i _ => n - (intOf i).toNat)
  case atStart => exact ⟨0, Nat.zero_le _, rfl, hK0, hb0⟩
  case round =>
    obtain ⟨k, hk, rfl, hK, hB⟩ := hrel
    by_cases hlt : k < n
    · obtain ⟨b, o, x, rfl, hb, hc, ex⟩ := (h.below hB (Nat.le_refl _)).at_ hlt
      have i0 : (0 : Int) ≤ (k : Int) := by omega
      have i1 : (k : Int) < (n : Int) := by omega
      have hx : (⟨x.toArray⟩ : ByteArray).size ≤ maxLen := by
        have h1 : x ∈ L := by rw [ex.out, List.getD_eq_getElem?_getD, List.getElem?_eq_getElem (by have := HL.out; omega)]; exact List.getElem_mem _
        have := HM.out x h1
        show x.toArray.size ≤ maxLen
        simpa using this
      obtain ⟨w2, hrun, hK2, hg2⟩ := hK.store strK_law Try.underlying89 (WideMaps.keyOf_string_mk Try.underlying9 hx) (by rw [List.length_map]; exact Nat.le_trans (List.length_take_le k _) (by omega))
      have hK2 : HasK w2 9 w.heap.size ((L.take k).map strV ++ [strV x]) := hK2
      rw [take_mapV (by have := HL.out; omega) ex.out] at hK2
      have HK2 := Lib.hid hK2
      have HB2 := Lib.hid (hB.grown hg2 hB.size (fun j hj => by cases hj; exact Nat.le_refl _))
      clear hK hK2 hg2 hB hx
      go_wp2_with fail
      go_roundw
      case rel => exact ⟨k + 1, by omega, by go_num, HK2.out, HB2.out⟩
      case measure => simp [intOf]; omega
    · have e : L.take k = L := List.take_of_length_le (by have := HL.out; omega)
      rw [e] at hK
      obtain ⟨N, m, Dm, hown, hsz, hle, hnd⟩ := hK.count strK_law
      rw [nodup_map fun _ _ => strV_inj, List.length_map, HL.out] at hnd
      rw [List.length_map, HL.out] at hle
      clear e hK
      by_cases hno : L.Nodup
      · obtain rfl : m = n := hnd.2 hno
        have H : Hid (decide (¬ L.Nodup) = false) := Lib.hid (by simpa using hno)
        have hs : Hid (Maps.size Dm = m) := Lib.hid hsz
        clear hnd hno hsz
        go_wp2_with (at_len; refine wpList_len_own _ rfl _ 89 rfl 9 90 Try.underlying89 (unitElem (H := Unit)) w.heap.size N Dm rfl hown ?_; rw [hs.out])
        go_ret
        exact ⟨bool_of H.out.symm, hB⟩
      · have hlt2 : m < n := by
          have : m ≠ n := fun e => hno (hnd.1 e)
          omega
        have H : Hid (decide (¬ L.Nodup) = true) := Lib.hid (by simpa using hno)
        have hs : Hid (Maps.size Dm = m) := Lib.hid hsz
        have hlt3 : (m : Int) < (n : Int) := by omega
        clear hnd hno hsz
        go_wp2_with (at_len; refine wpList_len_own _ rfl _ 89 rfl 9 90 Try.underlying89 (unitElem (H := Unit)) w.heap.size N Dm rfl hown ?_; rw [hs.out])
        go_ret
        exact ⟨bool_of H.out.symm, hB⟩
end Go.Proofs.Ytfddaegepmdohaa
