/- DictB, DictU, LatU, LatV, LatW, LatX, LatY, LatZ, LtD, LtT, LuD, LuK, LuE -/
import Derived.Test.YtmepdkdeanbbaaaGreatJ2
import Derived.Test.YtmepdkdeanbbaaaGreatJ15
import Derived.Test.YtmepdkdeanbbaaaGreatJ25
import Derived.Test.YtmepdkdeanbbaaaGreatJ26
import Derived.Test.YtmepdkdeanbbaaaGreatJ38
import Derived.Test.YtmepdkdeanbbaaaGreatJ44
import Derived.Deep.DeepCutAuto
namespace Go.Proofs.YtmepdkdeanbbaaaGreat
set_option maxRecDepth 100000
open Go.RowKit

def Off (gr base : Nat) (w w' : World) : Prop := Chg (fun k => k = gr ∨ base ≤ k) w w'
section
variable {gr base : Nat} {w a b : World}
theorem Off.size (h : Off gr base w a) : w.heap.size ≤ a.heap.size := Chg.size h
end
end Go.Proofs.YtmepdkdeanbbaaaGreat
namespace Go.Proofs.YtmepdkdeanbbaaaGreat
set_option maxRecDepth 100000

section
variable {n : Nat} {Q : List Pth}
theorem Good.up_ (h : Good n Q) {k : Nat} {q : Pth} (hq : Q[k]? = some q) : fnd Q q.dropLast ≤ k ∧ pth (Q.take k) (fnd Q q.dropLast) = q.dropLast := by
 rcases h.up k q hq with e | e
 ·rw [e, h.fnd_nil]
  exact ⟨Nat.zero_le _, rfl⟩
 ·have h1 : fnd (Q.take k ++ Q.drop k) q.dropLast = fnd (Q.take k) q.dropLast := fnd_left e
  rw [List.take_append_drop] at h1
  rw [h1]
  exact ⟨Nat.le_trans fnd_le (List.length_take_le _ _), pth_fnd e⟩
theorem due_take (hg : Good n Q) (hw : Whole n Q) {k : Nat} {q : Pth} (hq : Q[k]? = some q) : dueP n (Q.take k) = 0 ∨ dueP n (Q.take k) = fnd Q q.dropLast := by
 have hkl := (List.getElem?_eq_some_iff.1 hq).1
 have hlen : (Q.take k).length = k := by simp; omega
 unfold dueP
 split
 ·rename_i h1
  rcases k with _ | j
  ·left; simp
  ·right
   rw [hlen] at h1 ⊢
   have h2 : Q[j]? = some (pth (Q.take (j + 1)) (j + 1)) := by
    have := pth_some (Q := Q.take (j + 1)) (c := j + 1) (by omega) (by omega)
    rw [Nat.add_sub_cancel, List.getElem?_take, if_pos (by omega)] at this
    exact this
   obtain ⟨q', h3, h4⟩ := hw j _ h2 h1
   rw [hq] at h3
   obtain rfl := Option.some.inj h3
   rw [h4, fnd_nodup hg.nodup h2]
 ·left; rfl
theorem lk_put {F R : List UInt8} {m : Nat} {hi : Int} (hm : (m : Int) ≤ hi) (hb : m ≤ 1000) : lk (F ++ (enc (zig (m : Int)) ++ R)) F.length 0 0 hi = ((m : Int), (enc (zig (m : Int))).length, 0) := by
 have hd : (F ++ (enc (zig (m : Int)) ++ R)).drop F.length = enc (zig (m : Int)) ++ R := List.drop_left
 obtain ⟨g1, g2, g3⟩ := g_put (n := (m : Int)) (by omega) (by omega) R
 rw [lk_ok (by rw [hd]; exact g3) (by rw [hd, g1]; omega), hd, g1, g2]
theorem tx_put {F R : List UInt8} {s : Txt} (hs : s.length ≤ 12) : tx (F ++ (enc (zig (s.length : Int)) ++ (s ++ R))) F.length 0 12 = (s, F.length + (enc (zig (s.length : Int))).length + s.length, 0) := by
 have h1 := lk_put (F := F) (R := s ++ R) (m := s.length) (hi := 12) (by omega) (by omega)
 have hd : (F ++ (enc (zig (s.length : Int)) ++ (s ++ R))).drop (F.length + (enc (zig (s.length : Int))).length) = s ++ R := by
  rw [← List.append_assoc, ← List.length_append, List.drop_left]
 rw [tx_ok h1 (by simp), hd, Int.toNat_natCast, List.take_left]
theorem rdN_back (hg : Good n Q) (hw : Whole n Q) (F R : List UInt8) : ∀ {k : Nat}, k ≤ Q.length → rdN n (F ++ (encD Q ++ R)) ([], F.length + (enc (zig (Q.length : Int))).length, 0) k = (Q.take k, (F ++ (enc (zig (Q.length : Int)) ++ ((ents Q).take k).flatMap encE)).length, 0) := by
 intro k
 induction k with
 | zero => intro _; simp [rdN]
 | succ k ih =>
  intro hk
  obtain ⟨q, hq⟩ : ∃ q, Q[k]? = some q := ⟨_, List.getElem?_eq_getElem (by omega)⟩
  have hqm := List.mem_of_getElem? hq
  have hne : q ≠ [] := fun e => by have := (hg.one q hqm).1; rw [e] at this; simp at this
  have hent := ents_get hq
  obtain ⟨hak, hpt⟩ := hg.up_ hq
  have hdue := due_take hg hw hq
  obtain ⟨ha40, hs12⟩ := hg.ent_bd hent
  have hsl := split_last hne
  have hnm : nameP (q.getLastD []) := hg.nam q hqm _ (by
   have h1 : q.getLastD [] ∈ q.dropLast ++ [q.getLastD []] := by simp
   rwa [hsl] at h1)
  generalize fnd Q q.dropLast = a at *
  generalize q.getLastD [] = s at *
  have hft := flat_take encE hent
  have hsplit : F ++ (encD Q ++ R) = F ++ (enc (zig (Q.length : Int)) ++ ((ents Q).take k).flatMap encE) ++ (enc (zig (a : Int)) ++ (enc (zig (s.length : Int)) ++ (s ++ (((ents Q).drop (k + 1)).flatMap encE ++ R)))) := by
   have h1 : (ents Q).flatMap encE = ((ents Q).take (k + 1)).flatMap encE ++ ((ents Q).drop (k + 1)).flatMap encE := by
    rw [← List.flatMap_append, List.take_append_drop]
   unfold encD
   rw [h1, hft]
   simp only [encE, List.append_assoc]
  have hlen : (Q.take k).length = k := by simp; omega
  show rdS n (F ++ (encD Q ++ R)) (rdN n (F ++ (encD Q ++ R)) _ k) = _
  rw [ih (by omega)]
  have h1 : lk (F ++ (encD Q ++ R)) (F ++ (enc (zig (Q.length : Int)) ++ ((ents Q).take k).flatMap encE)).length 0 0 (Q.take k).length = ((a : Int), (enc (zig (a : Int))).length, 0) := by
   rw [hsplit]
   exact lk_put (by rw [hlen]; omega) (by omega)
  have h2 : tx (F ++ (encD Q ++ R)) ((F ++ (enc (zig (Q.length : Int)) ++ ((ents Q).take k).flatMap encE)).length + (enc (zig (a : Int))).length) 0 12 = (s, (F ++ (enc (zig (Q.length : Int)) ++ ((ents Q).take k).flatMap encE)).length + (enc (zig (a : Int))).length + (enc (zig (s.length : Int))).length + s.length, 0) := by
   rw [hsplit, ← List.length_append, ← List.append_assoc _ (enc (zig (a : Int))) _]
   exact tx_put hs12
  have hmay : mayC n (Q.take k) a s := by
   refine ⟨hnm, ?_, ?_, hdue⟩
   ·rw [hpt, List.length_dropLast]
    have := hg.one q hqm
    omega
   ·rw [hpt, hsl]
    intro hm
    obtain ⟨j, hj⟩ := List.getElem?_of_mem hm
    rw [List.getElem?_take] at hj
    split at hj
    ·have e1 := fnd_nodup hg.nodup hj
     have e2 := fnd_nodup hg.nodup hq
     omega
    ·cases hj
  rw [rdS_is h1 h2, if_pos hmay, hpt, hsl, List.take_add_one, hq, hft]
  refine Prod.ext rfl (Prod.ext ?_ rfl)
  simp only [encE, List.length_append]
  omega
theorem encD_len (hg : Good n Q) : 1 ≤ (encD Q).length ∧ (encD Q).length ≤ 2000 := by
 have h1 : ∀ {k : Nat}, k ≤ Q.length → (((ents Q).take k).flatMap encE).length ≤ 32 * k := by
  intro k
  induction k with
  | zero => intro _; simp
  | succ k ih =>
   intro hk
   obtain ⟨a, s, hent⟩ : ∃ a s, (ents Q)[k]? = some (a, s) := ⟨_, _, ents_get (List.getElem?_eq_getElem (show k < Q.length by omega))⟩
   obtain ⟨ha40, hs12⟩ := hg.ent_bd hent
   have h2 := ih (by omega)
   have h3 := encE_len (e := (a, s)) (by omega) hs12
   rw [flat_take encE hent, List.length_append]
   omega
 have h2 := h1 (Nat.le_refl Q.length)
 rw [List.take_of_length_le (by rw [ents_len]; exact Nat.le_refl _)] at h2
 have h3 := hg.size
 have h4 := enc_pos (zig (Q.length : Int))
 have h5 := enc_ten (zig_lt (n := (Q.length : Int)) (by omega) (by omega))
 unfold encD
 rw [List.length_append]
 omega
end
end Go.Proofs.YtmepdkdeanbbaaaGreat
namespace Go.Proofs.YtmepdkdeanbbaaaGreat
set_option maxRecDepth 100000

def encL (m : Nat) (Qs : List (List Pth)) (B : Cub) : List UInt8 := Qs.flatMap encD ++ encC m B
def WholeD : List Nat → List (List Pth) → Prop
 | n :: N, Q :: Qs => Whole n Q ∧ WholeD N Qs
 | _, _ => True
theorem addD_whole : ∀ {N : List Nat} {Qs : List (List Pth)} (P : List Pth), GoodD N Qs → WholeD N Qs → WholeD N (addD N Qs P)
 | _ :: _, _ :: _, _ :: P, ⟨g, g'⟩, ⟨h, h'⟩ => ⟨Whole.add g h, addD_whole P g' h'⟩
 | [], [], _, _, h => h
 | _ :: _, _ :: _, [], _, h => h
 | [], _ :: _, _, h, _ => h.elim
 | _ :: _, [], _, h, _ => h.elim
def fullK : List Nat → List (List Pth) → List Int → Prop
 | n :: N, Q :: Qs, c :: k => (0 < c ∧ c ≤ (Q.length : Int) ∧ (pth Q c.toNat).length = n) ∧ fullK N Qs k
 | [], [], [] => True
 | _, _, _ => False
theorem base_full : ∀ {D : List PDim} {Qs : List (List Pth)} {P : List Pth}, GoodD (levN D) Qs → HasPth Qs (baseP D) P → P.map List.length = levN D → (∀ p ∈ P, p ≠ []) → fullK (levN D) Qs (keyC Qs (baseP D) P)
 | [], [], [], _, _, _, _ => trivial
 | d :: D, Q :: Qs, p :: P, ⟨g, g'⟩, ⟨h, h'⟩, hl, hn => by
  simp only [levN, List.map_cons, List.cons.injEq] at hl
  have hp : p.take ((d.2.length : Int)).toNat = p := List.take_of_length_le (by rw [Int.toNat_natCast, hl.1]; exact Nat.le_refl _)
  refine ⟨?_, base_full g' h' hl.2 fun q hq => hn q (List.mem_cons_of_mem _ hq)⟩
  have hm : p ∈ Q := by
   have h1 : p.take ((d.2.length : Int)).toNat = [] ∨ p.take ((d.2.length : Int)).toNat ∈ Q := h
   rw [hp] at h1
   exact h1.resolve_left (hn p (by simp))
  show 0 < ((fnd Q (p.take ((d.2.length : Int)).toNat) : Nat) : Int) ∧ _ ∧ _
  rw [hp, Int.toNat_natCast, pth_fnd hm]
  have h1 := fnd_pos.2 hm
  have h2 := fnd_le (L := Q) (x := p)
  exact ⟨by omega, by omega, hl.1⟩
 | [], [], _ :: _, _, h, _, _ => h.elim
 | [], _ :: _, _, h, _, _, _ => h.elim
 | _ :: _, [], _, h, _, _, _ => h.elim
 | _ :: _, _ :: _, [], _, h, _, _ => h.elim
theorem keyP_base : ∀ {D : List PDim} {P : List Pth}, P.map List.length = levN D → keyP (baseP D) P = P
 | [], [], _ => rfl
 | d :: D, p :: P, h => by
  simp only [levN, List.map_cons, List.cons.injEq] at h
  have hp : p.take ((d.2.length : Int)).toNat = p := List.take_of_length_le (by rw [Int.toNat_natCast, h.1]; exact Nat.le_refl _)
  show p.take ((d.2.length : Int)).toNat :: keyP (baseP D) P = _
  rw [hp, keyP_base h.2]
 | [], _ :: _, h => by simp [levN] at h
 | _ :: _, [], h => by simp [levN] at h
theorem lev_pos {D : List PDim} {P : List Pth} (hD : ∀ d ∈ D, apartP d.2 3) (h : P.map List.length = levN D) : ∀ p ∈ P, p ≠ [] := by
 intro p hp e
 have h1 : p.length ∈ P.map List.length := List.mem_map.2 ⟨p, hp, rfl⟩
 rw [h] at h1
 obtain ⟨d, hd, hl⟩ := List.mem_map.1 h1
 have h2 := (hD d hd).1
 rw [e] at hl
 simp at hl
 rw [hl] at h2
 simp at h2
section
variable {D : List PDim} {M : List Txt} {V : List (List Int)} {E : List Hld} {Qs : List (List Pth)} {B : Cub}
end
end Go.Proofs.YtmepdkdeanbbaaaGreat
namespace Go.Proofs.YtmepdkdeanbbaaaGreat
set_option maxRecDepth 100000

section
variable {D : List PDim} {M : List Txt} {V : List (List Int)} {Qs : List (List Pth)} {B : Cub}
end
end Go.Proofs.YtmepdkdeanbbaaaGreat
namespace Go.Proofs.YtmepdkdeanbbaaaGreat
set_option maxRecDepth 100000

section
variable {D : List PDim} {M : List Txt} {V : List (List Int)} {E : List Hld} {Qs : List (List Pth)} {B : Cub}
end
end Go.Proofs.YtmepdkdeanbbaaaGreat
namespace Go.Proofs.YtmepdkdeanbbaaaGreat
set_option maxRecDepth 100000

theorem addsD_whole {N : List Nat} : ∀ {F : List Fct} {Qs : List (List Pth)}, GoodD N Qs → WholeD N Qs → WholeD N (addsD N Qs F).1
 | [], _, _, h => h
 | f :: F, Qs, g, h => by
  rw [addsD]
  split
  ·exact h
  ·exact addsD_whole (addD_good f.1 g) (addD_whole f.1 g h)
theorem levN_may {D : List PDim} {M : List Txt} {V : List (List Int)} (h : mayS D M V) : ∀ n ∈ levN D, 1 ≤ n ∧ n ≤ 3 := fun n hn => by
 obtain ⟨d, hd, rfl⟩ := List.mem_map.1 hn
 exact ⟨(h.1.1 d hd).1, (h.1.1 d hd).2.1⟩
section
variable {D : List PDim} {M : List Txt} {V : List (List Int)} {E : List Hld} {G : List Fct} {Qs : List (List Pth)}
theorem applyP_whole (hg : GoodD (levN D) Qs) (h : WholeD (levN D) Qs) (G : List Fct) : WholeD (levN D) (applyP D M V E Qs G).1.2 := by
 unfold applyP
 split
 ·exact h
 split
 ·exact h
 split
 ·exact h
 split
 ·exact h
 ·exact addsD_whole hg h
theorem whole_none : ∀ D : List PDim, WholeD (levN D) (D.map fun _ => [])
 | [] => trivial
 | _ :: D => ⟨whole_nil _, whole_none D⟩
end
end Go.Proofs.YtmepdkdeanbbaaaGreat
namespace Go.Proofs.YtmepdkdeanbbaaaGreat
set_option maxRecDepth 100000

/-! ### keys, place by place -/
theorem keyC_len : ∀ {Qs : List (List Pth)} {v : List Int} {P : List Pth}, v.length = Qs.length → P.length = Qs.length → (keyC Qs v P).length = Qs.length
 | [], [], [], _, _ => rfl
 | Q :: Qs, n :: v, p :: P, h, h' => by
  simp only [keyC, List.length_cons] at h h' ⊢
  rw [keyC_len (by omega) (by omega)]
 | [], _ :: _, _, h, _ => by simp at h
 | [], [], _ :: _, _, h => by simp at h
 | _ :: _, [], _, h, _ => by simp at h
 | _ :: _, _ :: _, [], _, h => by simp at h
theorem keyC_get : ∀ {Qs : List (List Pth)} {v : List Int} {P : List Pth} {i : Nat}, i < Qs.length → v.length = Qs.length → P.length = Qs.length → (keyC Qs v P).getD i 0 = ((fnd (Qs.getD i []) ((P.getD i []).take (v.getD i 0).toNat) : Nat) : Int)
 | Q :: Qs, n :: v, p :: P, 0, _, _, _ => rfl
 | Q :: Qs, n :: v, p :: P, i + 1, h, h1, h2 => by
  simp only [keyC, List.length_cons, List.getD_cons_succ] at h h1 h2 ⊢
  exact keyC_get (by omega) (by omega) (by omega)
 | [], _, _, _, h, _, _ => by simp at h
 | _ :: _, [], _, _, _, h, _ => by simp at h
 | _ :: _, _ :: _, [], _, _, _, h => by simp at h
theorem pathsK_len : ∀ {Qs : List (List Pth)} {k : List Int}, k.length = Qs.length → (pathsK Qs k).length = Qs.length
 | [], [], _ => rfl
 | Q :: Qs, c :: k, h => by
  simp only [pathsK, List.length_cons] at h ⊢
  rw [pathsK_len (by omega)]
 | [], _ :: _, h => by simp at h
 | _ :: _, [], h => by simp at h
theorem pathsK_get : ∀ {Qs : List (List Pth)} {k : List Int} {i : Nat}, i < Qs.length → k.length = Qs.length → (pathsK Qs k).getD i [] = pth (Qs.getD i []) (k.getD i 0).toNat
 | Q :: Qs, c :: k, 0, _, _ => rfl
 | Q :: Qs, c :: k, i + 1, h, h' => by
  simp only [pathsK, List.length_cons, List.getD_cons_succ] at h h' ⊢
  exact pathsK_get (by omega) (by omega)
 | [], _, _, h, _ => by simp at h
 | _ :: _, [], _, _, h => by simp at h
theorem GoodD.len : ∀ {N : List Nat} {Qs : List (List Pth)}, GoodD N Qs → Qs.length = N.length
 | [], [], _ => rfl
 | n :: N, Q :: Qs, h => by simp [GoodD.len h.2]
 | [], _ :: _, h => h.elim
 | _ :: _, [], h => h.elim
theorem GoodD.get : ∀ {N : List Nat} {Qs : List (List Pth)} {i : Nat}, GoodD N Qs → i < N.length → Good (N.getD i 0) (Qs.getD i [])
 | n :: N, Q :: Qs, 0, h, _ => h.1
 | n :: N, Q :: Qs, i + 1, h, hi => by
  simp only [List.length_cons, List.getD_cons_succ] at hi ⊢
  exact GoodD.get h.2 (by omega)
 | [], _, _, _, hi => by simp at hi
 | _ :: _, [], _, h, _ => h.elim
theorem GoodD.of : ∀ {N : List Nat} {Qs : List (List Pth)}, Qs.length = N.length → (∀ i, i < N.length → Good (N.getD i 0) (Qs.getD i [])) → GoodD N Qs
 | [], [], _, _ => trivial
 | n :: N, Q :: Qs, hl, h => ⟨h 0 (by simp), GoodD.of (by simpa using hl) fun i hi => by
  have := h (i + 1) (by simpa using hi)
  simpa only [List.getD_cons_succ] using this⟩
 | [], _ :: _, hl, _ => by simp at hl
 | _ :: _, [], hl, _ => by simp at hl
theorem fullK_len : ∀ {N : List Nat} {Qs : List (List Pth)} {k : List Int}, fullK N Qs k → Qs.length = N.length ∧ k.length = N.length
 | [], [], [], _ => ⟨rfl, rfl⟩
 | n :: N, Q :: Qs, c :: k, h => by
  have := fullK_len h.2
  simp [this.1, this.2]
 | [], _ :: _, _, h => h.elim
 | [], [], _ :: _, h => h.elim
 | _ :: _, [], _, h => h.elim
 | _ :: _, _ :: _, [], h => h.elim
theorem fullK_get : ∀ {N : List Nat} {Qs : List (List Pth)} {k : List Int} {i : Nat}, fullK N Qs k → i < N.length → 0 < k.getD i 0 ∧ k.getD i 0 ≤ ((Qs.getD i []).length : Int) ∧ (pth (Qs.getD i []) (k.getD i 0).toNat).length = N.getD i 0
 | n :: N, Q :: Qs, c :: k, 0, h, _ => h.1
 | n :: N, Q :: Qs, c :: k, i + 1, h, hi => by
  simp only [List.length_cons, List.getD_cons_succ] at hi ⊢
  exact fullK_get h.2 (by omega)
 | [], _, _, _, _, hi => by simp at hi
 | _ :: _, [], _, _, h, _ => h.elim
 | _ :: _, _ :: _, [], _, h, _ => h.elim
theorem LevD.len : ∀ {N : List Nat} {v : List Int}, LevD N v → v.length = N.length
 | [], [], _ => rfl
 | n :: N, x :: v, h => by simp [LevD.len h.2.2]
 | [], _ :: _, h => h.elim
 | _ :: _, [], h => h.elim
theorem LevD.get : ∀ {N : List Nat} {v : List Int} {i : Nat}, LevD N v → i < N.length → 0 ≤ v.getD i 0 ∧ v.getD i 0 ≤ ((N.getD i 0 : Nat) : Int)
 | n :: N, x :: v, 0, h, _ => ⟨h.1, h.2.1⟩
 | n :: N, x :: v, i + 1, h, hi => by
  simp only [List.length_cons, List.getD_cons_succ] at hi ⊢
  exact LevD.get h.2.2 (by omega)
 | [], _, _, _, hi => by simp at hi
 | _ :: _, [], _, h, _ => h.elim
def upB (Qs : List (List Pth)) (k v : List Int) : List Int := keyC Qs v (pathsK Qs k)
theorem upB_key {D : List PDim} {Qs : List (List Pth)} {v : List Int} {P : List Pth} (hg : GoodD (levN D) Qs) (hP : HasPth Qs (baseP D) P) (hl : P.map List.length = levN D) : upB Qs (keyC Qs (baseP D) P) v = keyC Qs v P := by
 unfold upB
 rw [pathsK_key hg.noNil hP, keyP_base hl]
theorem upB_len {N : List Nat} {Qs : List (List Pth)} {k v : List Int} (hk : fullK N Qs k) (hv : LevD N v) : (upB Qs k v).length = N.length := by
 have h1 := fullK_len hk
 have h2 := hv.len
 unfold upB
 rw [keyC_len (by omega) (by rw [pathsK_len (by omega)]), h1.1]
theorem upB_get {N : List Nat} {Qs : List (List Pth)} {k v : List Int} (hk : fullK N Qs k) (hv : LevD N v) {i : Nat} (hi : i < N.length) : (upB Qs k v).getD i 0 = ((fnd (Qs.getD i []) ((pth (Qs.getD i []) (k.getD i 0).toNat).take (v.getD i 0).toNat) : Nat) : Int) := by
 have h1 := fullK_len hk
 have h2 := hv.len
 unfold upB
 rw [keyC_get (by omega) (by omega) (by rw [pathsK_len (by omega)]), pathsK_get (by omega) (by omega)]

/-! ### what comes under each key -/
section
variable {α K : Type} [DecidableEq K] {κ : α → K} {c : α → PC} {G : List α}
theorem takeG_step {i : Nat} {f : α} (h : G[i]? = some f) : G.take (i + 1) = G.take i ++ [f] := by rw [List.take_add_one, h]; rfl
theorem cellsV_snoc {i : Nat} {f : α} (h : G[i]? = some f) (k : K) : cellsV κ c (G.take (i + 1)) k = if κ f = k then cellsV κ c (G.take i) k ++ [c f] else cellsV κ c (G.take i) k := by
 rw [takeG_step h, cellsV_app]
 unfold cellsV
 by_cases hk : κ f = k
 ·simp [hk]
 ·simp [hk]
def gthF (κ : α → K) (c : α → PC) (G : List α) : List (K × List PC) := (fstK κ G []).map fun k => (k, cellsV κ c G k)
theorem gthF_keys (κ : α → K) (c : α → PC) (G : List α) : (gthF κ c G).map (·.1) = fstK κ G [] := by
 unfold gthF
 rw [List.map_map]
 exact List.map_id _
theorem gthF_had {i : Nat} {f : α} (h : G[i]? = some f) {j : Nat} {M : List PC} (hj : (gthF κ c (G.take i))[j]? = some (κ f, M)) : gthF κ c (G.take (i + 1)) = (gthF κ c (G.take i)).set j (κ f, M ++ [c f]) := by
 unfold gthF at hj ⊢
 rw [List.getElem?_map, Option.map_eq_some_iff] at hj
 obtain ⟨k, hk, e⟩ := hj
 obtain ⟨rfl, rfl⟩ := Prod.mk.inj e
 have hn := fstK_nodup κ (G.take i) [] List.nodup_nil
 rw [fstK_step h, if_pos (List.mem_of_getElem? hk)]
 refine List.ext_getElem? fun q => ?_
 rw [List.getElem?_map, List.getElem?_set, List.length_map, List.getElem?_map]
 by_cases hq : j = q
 ·subst hq
  rw [if_pos rfl, if_pos (List.getElem?_eq_some_iff.1 hk).1, hk]
  simp only [Option.map_some, cellsV_snoc h, if_pos]
 ·rw [if_neg hq]
  rcases hx : (fstK κ (G.take i) [])[q]? with _ | x
  ·rfl
  ·have hne : ¬ κ f = x := fun e => hq (nodup_inj hn hk (by rw [hx, e]))
   simp only [Option.map_some, cellsV_snoc h, if_neg hne]
theorem gthF_new {i : Nat} {f : α} (h : G[i]? = some f) (hn : κ f ∉ fstK κ (G.take i) []) : gthF κ c (G.take (i + 1)) = gthF κ c (G.take i) ++ [(κ f, [c f])] := by
 unfold gthF
 rw [fstK_step h, if_neg hn, List.map_append]
 have h0 : cellsV κ c (G.take i) (κ f) = [] := by
  by_cases h' : cellsV κ c (G.take i) (κ f) = []
  ·exact h'
  ·obtain ⟨g, hg, e⟩ := cellsV_ne.1 h'
   exact absurd ((mem_fstK κ _ [] _).2 (.inr ⟨g, hg, e⟩)) hn
 congr 1
 ·refine List.map_congr_left fun x hx => ?_
  have hne : ¬ κ f = x := fun e => hn (e ▸ hx)
  rw [cellsV_snoc h, if_neg hne]
 ·simp only [List.map_cons, List.map_nil, cellsV_snoc h, if_pos, h0, List.nil_append]
theorem mem_gthF {x : K × List PC} : x ∈ gthF κ c G ↔ (∃ f ∈ G, κ f = x.1) ∧ x.2 = cellsV κ c G x.1 := by
 unfold gthF
 rw [List.mem_map]
 constructor
 ·rintro ⟨k, hk, rfl⟩
  rcases (mem_fstK κ G [] k).1 hk with h | h
  ·simp at h
  ·exact ⟨h, rfl⟩
 ·rintro ⟨h, e⟩
  exact ⟨x.1, (mem_fstK κ G [] _).2 (.inr h), by rw [← e]⟩
theorem gthF_len (κ : α → K) (c : α → PC) (G : List α) : (gthF κ c G).length ≤ G.length := by
 unfold gthF
 rw [List.length_map]
 simpa using fstK_len κ G []
end

/-! ### what a cell is with the cells that come -/
def withP (C : Cub) (k : List Int) (M : List PC) : PC × Int := cSum ((getK C k).toList ++ M)
abbrev Chn := (Nat × List Int) × (List PC × PC)
def chgV (v : Nat) (C : Cub) (L : List (List Int × List PC)) : List Chn := L.map fun x => ((v, x.1), (x.2, (withP C x.1 x.2).1))
def okV (C : Cub) (L : List (List Int × List PC)) : Prop := ∀ x ∈ L, (withP C x.1 x.2).2 = 0
def putV (Cs : List Cub) (x : Chn) : List Cub := Cs.set x.1.1 (setK (Cs.getD x.1.1 []) x.1.2 x.2.2)
def putsV (Cs : List Cub) (L : List Chn) : List Cub := L.foldl putV Cs
theorem putV_len (Cs : List Cub) (x : Chn) : (putV Cs x).length = Cs.length := by unfold putV; rw [List.length_set]
theorem putsV_len (L : List Chn) : ∀ Cs : List Cub, (putsV Cs L).length = Cs.length := by
 induction L with
 | nil => exact fun _ => rfl
 | cons x L ih => exact fun Cs => (ih (putV Cs x)).trans (putV_len Cs x)
theorem putsV_snoc {Cs : List Cub} {L : List Chn} {i : Nat} {x : Chn} (h : L[i]? = some x) : putsV Cs (L.take (i + 1)) = putV (putsV Cs (L.take i)) x := by
 unfold putsV
 rw [takeG_step h, List.foldl_append]
 rfl
theorem putV_getD {Cs : List Cub} {x : Chn} (hx : x.1.1 < Cs.length) (v : Nat) : (putV Cs x).getD v [] = if x.1.1 = v then setK (Cs.getD v []) x.1.2 x.2.2 else Cs.getD v [] := by
 unfold putV
 rw [List.getD_eq_getElem?_getD, List.getElem?_set]
 by_cases h : x.1.1 = v
 ·rw [if_pos h, if_pos h, if_pos (h ▸ hx), h]; rfl
 ·rw [if_neg h, if_neg h, List.getD_eq_getElem?_getD]
theorem putsV_get {n : Nat} (Wh : Nat → List Int → PC) (v : Nat) (k : List Int) : ∀ (L : List Chn) (Cs : List Cub), Cs.length = n → (∀ x ∈ L, x.1.1 < n ∧ x.2.2 = Wh x.1.1 x.1.2) → getK ((putsV Cs L).getD v []) k = if ∃ x ∈ L, x.1 = (v, k) then some (Wh v k) else getK (Cs.getD v []) k
 | [], Cs, _, _ => by simp [putsV]
 | x :: L, Cs, hn, hL => by
  show getK ((putsV (putV Cs x) L).getD v []) k = _
  rw [putsV_get Wh v k L (putV Cs x) (by rw [putV_len, hn]) fun y hy => hL y (List.mem_cons_of_mem _ hy), putV_getD (by rw [hn]; exact (hL x (by simp)).1)]
  by_cases h : ∃ y ∈ L, y.1 = (v, k)
  ·obtain ⟨y, hy, e⟩ := h
   rw [if_pos ⟨y, hy, e⟩, if_pos ⟨y, List.mem_cons_of_mem _ hy, e⟩]
  ·rw [if_neg h]
   by_cases hx : x.1 = (v, k)
   ·rw [if_pos (show x.1.1 = v by rw [hx]), getK_setK, if_pos (show k = x.1.2 by rw [hx]), if_pos ⟨x, by simp, hx⟩, (hL x (by simp)).2, hx]
   ·have hn' : ¬ ∃ y ∈ x :: L, y.1 = (v, k) := by
     rintro ⟨y, hy, e⟩
     rcases List.mem_cons.1 hy with rfl | hy
     ·exact hx e
     ·exact h ⟨y, hy, e⟩
    rw [if_neg hn']
    by_cases h1 : x.1.1 = v
    ·rw [if_pos h1, getK_setK, if_neg fun e => hx (Prod.ext h1 e.symm)]
    ·rw [if_neg h1]
theorem putsV_ris : ∀ (L : List Chn) (Cs : List Cub), (∀ v, Ris (Cs.getD v [])) → ∀ v, Ris ((putsV Cs L).getD v [])
 | [], Cs, h, v => h v
 | x :: L, Cs, h, v => putsV_ris L (putV Cs x) (fun q => by
  by_cases hx : x.1.1 < Cs.length
  ·rw [putV_getD hx]
   split
   ·exact setK_ris (h q) _ _
   ·exact h q
  ·have e : putV Cs x = Cs := List.set_eq_of_length_le (by omega)
   rw [e]
   exact h q) v
end Go.Proofs.YtmepdkdeanbbaaaGreat
namespace Go.Proofs.YtmepdkdeanbbaaaGreat
set_option maxRecDepth 100000

theorem cellsV_ent {Rs : List (List Pth)} {v : List Int} (G : List Fct) (k : List Int) : cellsV (kC Rs v) cellE (G.map entF) k = cellsV (kC Rs v) oneF G k := by
 unfold cellsV
 rw [List.filter_map, List.map_map]
 rfl
theorem keyC_isKey : ∀ {N : List Nat} {Qs : List (List Pth)} {v : List Int} {P : List Pth}, GoodD N Qs → HasPth Qs v P → isKey N.length (keyC Qs v P)
 | [], [], [], [], _, _ => ⟨rfl, fun c h => by simp [keyC] at h⟩
 | n :: N, Q :: Qs, x :: v, p :: P, hg, hp => by
  obtain ⟨h1, h2⟩ := keyC_isKey hg.2 hp.2
  refine ⟨by simp only [keyC, List.length_cons, h1], fun c hc => ?_⟩
  simp only [keyC, List.mem_cons] at hc
  rcases hc with rfl | hc
  ·have := @fnd_le _ _ Q (p.take x.toNat)
   have := hg.1.size
   omega
  ·exact h2 c hc
 | [], _ :: _, _, _, h, _ => h.elim
 | _ :: _, [], _, _, h, _ => h.elim
 | [], [], _ :: _, _, _, h => h.elim
 | [], [], [], _ :: _, _, h => h.elim
 | _ :: _, _ :: _, [], _, _, h => h.elim
 | _ :: _, _ :: _, _ :: _, [], _, h => h.elim

structure IsCubs (D : List PDim) (M : List Txt) (V : List (List Int)) (E : List Hld) (Qs : List (List Pth)) (Cs : List Cub) : Prop where
 len : Cs.length = (viewsP D V).length
 at_ : ∀ i v, (viewsP D V)[i]? = some v → IsCub M.length (kC Qs v) cellE E (Cs.getD i [])
def chgs (Rs : List (List Pth)) (Vs : List (List Int)) (Cs : List Cub) (G : List Fct) (n : Nat) : List Chn := (List.range n).flatMap fun i => chgV i (Cs.getD i []) (gthF (kC Rs (Vs.getD i [])) oneF G)
theorem chgs_zero (Rs : List (List Pth)) (Vs : List (List Int)) (Cs : List Cub) (G : List Fct) : chgs Rs Vs Cs G 0 = [] := rfl
theorem chgs_succ (Rs : List (List Pth)) (Vs : List (List Int)) (Cs : List Cub) (G : List Fct) (n : Nat) : chgs Rs Vs Cs G (n + 1) = chgs Rs Vs Cs G n ++ chgV n (Cs.getD n []) (gthF (kC Rs (Vs.getD n [])) oneF G) := by
 unfold chgs
 rw [List.range_succ, List.flatMap_append]
 simp
theorem mem_chgs {Rs : List (List Pth)} {Vs : List (List Int)} {Cs : List Cub} {G : List Fct} {n : Nat} {x : Chn} : x ∈ chgs Rs Vs Cs G n ↔ x.1.1 < n ∧ (∃ g ∈ G, kC Rs (Vs.getD x.1.1 []) g = x.1.2) ∧ x.2.1 = cellsV (kC Rs (Vs.getD x.1.1 [])) oneF G x.1.2 ∧ x.2.2 = (withP (Cs.getD x.1.1 []) x.1.2 x.2.1).1 := by
 unfold chgs chgV
 rw [List.mem_flatMap]
 constructor
 ·rintro ⟨i, hi, hx⟩
  obtain ⟨y, hy, rfl⟩ := List.mem_map.1 hx
  obtain ⟨h1, h2⟩ := mem_gthF.1 hy
  exact ⟨List.mem_range.1 hi, h1, h2, rfl⟩
 ·rintro ⟨h1, h2, h3, h4⟩
  refine ⟨x.1.1, List.mem_range.2 h1, List.mem_map.2 ⟨(x.1.2, x.2.1), mem_gthF.2 ⟨h2, h3⟩, ?_⟩⟩
  rw [← h4]
theorem chgs_one (Rs : List (List Pth)) (Vs : List (List Int)) (Cs : List Cub) (G : List Fct) : ∀ n, ((chgs Rs Vs Cs G n).map (·.1)).Nodup
 | 0 => List.nodup_nil
 | n + 1 => by
  rw [chgs_succ, List.map_append]
  refine List.nodup_append.2 ⟨chgs_one Rs Vs Cs G n, ?_, ?_⟩
  ·have e : (chgV n (Cs.getD n []) (gthF (kC Rs (Vs.getD n [])) oneF G)).map (·.1) = (fstK (kC Rs (Vs.getD n [])) G []).map fun k => (n, k) := by
    rw [← gthF_keys (kC Rs (Vs.getD n [])) oneF G]
    unfold chgV
    rw [List.map_map, List.map_map]
    rfl
   rw [e]
   exact List.Pairwise.map _ (fun a b h e => h (Prod.mk.inj e).2) (fstK_nodup _ G [] List.nodup_nil)
  ·intro a ha b hb e
   subst e
   obtain ⟨x, hx, rfl⟩ := List.mem_map.1 ha
   obtain ⟨y, hy, e⟩ := List.mem_map.1 hb
   have h1 := (mem_chgs.1 hx).1
   unfold chgV at hy
   obtain ⟨z, _, rfl⟩ := List.mem_map.1 hy
   have := congrArg Prod.fst e
   simp at this
   omega
section
variable {D : List PDim} {M : List Txt} {V : List (List Int)} {E : List Hld} {Qs Rs : List (List Pth)} {Cs : List Cub} {G : List Fct}
theorem IsCubs.begin (D : List PDim) (M : List Txt) (V : List (List Int)) (Qs : List (List Pth)) : IsCubs D M V [] Qs ((viewsP D V).map fun _ => []) :=
 ⟨by rw [List.length_map], fun i v hi => by
  rw [List.getD_eq_getElem?_getD, List.getElem?_map, hi]
  exact ⟨List.Pairwise.nil, fun x => by simp⟩⟩
theorem IsCubs.grown (h : IsCubs D M V E Qs Cs) (hL : LatOk D M V E Qs) (hg : GrownD Qs Rs) (h0 : NoNil Rs) : IsCubs D M V E Rs Cs :=
 ⟨h.len, fun i v hi => (h.at_ i v hi).grown hg h0 (hL.has v (List.mem_of_getElem? hi))⟩
theorem view_ok {v : List Int} {C : Cub} (hE : ∀ e ∈ E, isCell M.length e.2) (hG : ∀ f ∈ G, isCell M.length (oneF f)) (hg : NoNil Rs) (hPE : ∀ e ∈ E, HasPth Rs v e.1) (hPG : ∀ f ∈ G, HasPth Rs v f.1) (hC : IsCub M.length (kC Rs v) cellE E C) (hok : okF M.length (kP v) cellE E) (hcell : ∀ e ∈ C, isCell M.length e.2) :
  okV C (gthF (kC Rs v) oneF G) ↔ okF M.length (kP v) cellE (E ++ G.map entF) := by
 have hG' : ∀ f ∈ G.map entF, isCell M.length (cellE f) := fun f hf => by
  obtain ⟨g, hgm, rfl⟩ := List.mem_map.1 hf
  exact hG g hgm
 have hP' : ∀ f ∈ E ++ G.map entF, HasPth Rs v f.1 := fun f hf => by
  rcases List.mem_append.1 hf with hf | hf
  ·exact hPE f hf
  ·obtain ⟨g, hgm, rfl⟩ := List.mem_map.1 hf
   exact hPG g hgm
 rw [← okF_alike (kC_alike (β := PC) hg hP'), okF_more hE hG' hC ((okF_alike (kC_alike (β := PC) hg hPE)).2 hok)]
 have key : ∀ g ∈ G, ((withP C (kC Rs v g) (cellsV (kC Rs v) oneF G (kC Rs v g))).2 = 0 ↔ cMay (sumC M.length ((getK C (kC Rs v g)).toList ++ cellsV (kC Rs v) oneF G (kC Rs v g)))) := fun g hgm => by
  unfold withP
  rw [cSum_cells (m := M.length)]
  ·split
   ·rename_i h; exact ⟨fun _ => h, fun _ => rfl⟩
   ·rename_i h; exact ⟨fun h' => by simp at h', fun h' => absurd h' h⟩
  ·intro c hc
   rcases List.mem_append.1 hc with hc | hc
   ·rcases hq : getK C (kC Rs v g) with _ | y
    ·rw [hq] at hc; simp at hc
    ·rw [hq] at hc
     simp at hc
     subst hc
     exact hcell _ (getK_mem hq)
   ·unfold cellsV at hc
    obtain ⟨f, hf, rfl⟩ := List.mem_map.1 hc
    exact hG f (List.mem_filter.1 hf).1
  ·intro e
   have := (List.append_eq_nil_iff.1 e).2
   exact cellsV_ne.2 ⟨g, hgm, rfl⟩ this
 constructor
 ·intro h f hf
  obtain ⟨g, hgm, rfl⟩ := List.mem_map.1 hf
  rw [cellsV_ent]
  exact (key g hgm).1 (h (kC Rs v g, _) (mem_gthF.2 ⟨⟨g, hgm, rfl⟩, rfl⟩))
 ·intro h x hx
  obtain ⟨⟨g, hgm, e⟩, e2⟩ := mem_gthF.1 hx
  have h1 := h (entF g) (List.mem_map.2 ⟨g, hgm, rfl⟩)
  rw [cellsV_ent] at h1
  rw [e2, ← e]
  exact (key g hgm).2 h1
theorem IsCubs.put (hE : ∀ e ∈ E, isCell M.length e.2) (hG : ∀ f ∈ G, isCell M.length (oneF f)) (h : IsCubs D M V E Rs Cs) (hris : ∀ i, Ris (Cs.getD i [])) (hcell : ∀ i, ∀ e ∈ Cs.getD i [], isCell M.length e.2)
  (hok : ∀ i v, (viewsP D V)[i]? = some v → okV (Cs.getD i []) (gthF (kC Rs v) oneF G)) : IsCubs D M V (E ++ G.map entF) Rs (putsV Cs (chgs Rs (viewsP D V) Cs G (viewsP D V).length)) := by
 refine ⟨by rw [putsV_len]; exact h.len, fun i v hi => ?_⟩
 have hil := (List.getElem?_eq_some_iff.1 hi).1
 have hv : (viewsP D V).getD i [] = v := by rw [List.getD_eq_getElem?_getD, hi]; rfl
 refine IsCub.more (C := Cs.getD i []) hE (fun f hf => ?_) (h.at_ i v hi) (putsV_ris _ _ hris i) fun k => ?_
 ·obtain ⟨g, hgm, rfl⟩ := List.mem_map.1 hf
  exact hG g hgm
 ·rw [putsV_get (n := (viewsP D V).length) (fun v k => (withP (Cs.getD v []) k (cellsV (kC Rs ((viewsP D V).getD v [])) oneF G k)).1) i k _ Cs h.len (fun x hx => by
   obtain ⟨h1, _, h3, h4⟩ := mem_chgs.1 hx
   exact ⟨h1, by rw [h4, h3]⟩)]
  rw [cellsV_ent]
  have hiff : (∃ x ∈ chgs Rs (viewsP D V) Cs G (viewsP D V).length, x.1 = (i, k)) ↔ ∃ g ∈ G, kC Rs v g = k := by
   constructor
   ·rintro ⟨x, hx, e⟩
    obtain ⟨_, h2, _⟩ := mem_chgs.1 hx
    rw [e, hv] at h2
    exact h2
   ·rintro hg
    exact ⟨((i, k), (cellsV (kC Rs v) oneF G k, (withP (Cs.getD i []) k (cellsV (kC Rs v) oneF G k)).1)), mem_chgs.2 ⟨hil, by rw [hv]; exact hg, by rw [hv], rfl⟩, rfl⟩
  have hiff2 : (∃ g ∈ G.map entF, kC Rs v g = k) ↔ ∃ g ∈ G, kC Rs v g = k := by
   constructor
   ·rintro ⟨f, hf, e⟩
    obtain ⟨g, hgm, rfl⟩ := List.mem_map.1 hf
    exact ⟨g, hgm, e⟩
   ·rintro ⟨g, hgm, e⟩
    exact ⟨entF g, List.mem_map.2 ⟨g, hgm, rfl⟩, e⟩
  by_cases hk : ∃ g ∈ G, kC Rs v g = k
  ·rw [if_pos (hiff.2 hk), if_pos (hiff2.2 hk), hv]
   have h2 := hok i v hi (k, cellsV (kC Rs v) oneF G k) (mem_gthF.2 ⟨hk, rfl⟩)
   unfold withP at h2 ⊢
   have hcs : ∀ c ∈ (getK (Cs.getD i []) k).toList ++ cellsV (kC Rs v) oneF G k, isCell M.length c := fun c hc => by
    rcases List.mem_append.1 hc with hc | hc
    ·rcases hq : getK (Cs.getD i []) k with _ | y
     ·rw [hq] at hc; simp at hc
     ·rw [hq] at hc
      simp at hc
      subst hc
      exact hcell i _ (getK_mem hq)
    ·unfold cellsV at hc
     obtain ⟨f, hf, rfl⟩ := List.mem_map.1 hc
     exact hG f (List.mem_filter.1 hf).1
   rw [(sum_isCell hcs (fun e => cellsV_ne.2 hk (List.append_eq_nil_iff.1 e).2) h2).1]
  ·rw [if_neg fun h' => hk (hiff.1 h'), if_neg fun h' => hk (hiff2.1 h')]
end
/-! ### one change is put -/
theorem sum_two_more {m : Nat} {y : PC} {L : List PC} (hy : isCell m y) (hL : ∀ c ∈ L, isCell m c) (hn : L ≠ []) : sumC m [y, sumC m L] = sumC m (y :: L) := by
 have hF : ∀ c ∈ L, Full m c := cells_full hL
 have hY : ∀ c ∈ [y], Full m c := fun c hc => by rw [List.mem_singleton.1 hc]; exact hy.full
 have hs : Full m (sumC m L) := sumC_is hF hn
 rw [show sumC m [y, sumC m L] = sumC m [sumC m L, y] from sumC_perm (List.Perm.swap _ _ _) (fun c hc => by
  simp at hc
  rcases hc with rfl | rfl
  ·exact hy.full
  ·exact hs) (by simp), sumC_more hF hY hn]
 exact sumC_perm List.perm_append_comm (fun c hc => by
  rcases List.mem_append.1 hc with hc | hc
  ·exact hF c hc
  ·exact hY c hc) (by simp)
theorem add_whole {W m : Nat} {C : Cub} {k : List Int} {L : List PC} (hc : ∀ e ∈ C, isCell m e.2) (hk : isKey W k) (hL : ∀ c ∈ L, isCell m c) (hn : L ≠ []) (h0 : (cSum L).2 = 0) (hw : (withP C k L).2 = 0) : addK W m C k (cSum L).1 = (setK C k (withP C k L).1, 0) := by
 obtain ⟨e1, i1⟩ := sum_isCell hL hn h0
 rw [e1]
 unfold withP at hw ⊢
 rcases hq : getK C k with _ | y
 ·rw [addK_new ⟨hk, i1⟩ hq]
  show _ = (setK C k (cSum ([] ++ L)).1, 0)
  rw [List.nil_append, e1]
 ·rw [hq] at hw
  have hy := hc _ (getK_mem hq)
  have hyL : ∀ c ∈ y :: L, isCell m c := fun c h => by
   rcases List.mem_cons.1 h with rfl | h
   ·exact hy
   ·exact hL c h
  have hw' : (cSum (y :: L)).2 = 0 := hw
  obtain ⟨e2, i2⟩ := sum_isCell hyL (by simp) hw'
  have hm : cMerge y (sumC m L) = (sumC m (y :: L), 0) := by
   rw [merge_cells hy i1, sum_two_more hy hL hn, if_pos i2.1]
  rw [addK_more ⟨hk, i1⟩ hq (by rw [hm]), hm]
  show _ = (setK C k (cSum (y :: L)).1, 0)
  rw [e2]
theorem setK_last : ∀ {C : Cub} {k : List Int} {x : PC}, (∀ e ∈ C, lessK e.1 k = true) → setK C k x = C ++ [(k, x)]
 | [], _, _, _ => rfl
 | e :: C, k, x, h => by
  have h1 := h e (by simp)
  rw [setK, if_neg (lessK_ne h1), if_neg (by rw [lessK_asymm h1]; simp), setK_last fun y hy => h y (List.mem_cons_of_mem _ hy)]
  rfl
def turnK (C : Cub) (k : List Int) (x : PC) : Cub := C.map fun e => if e.1 = k then (k, x) else e
theorem turnK_set : ∀ {C : Cub} {k : List Int} {x : PC}, Ris C → (getK C k).isSome → turnK C k x = setK C k x
 | [], _, _, _, h => by simp [getK] at h
 | e :: C, k, x, hr, h => by
  obtain ⟨r1, r2⟩ := List.pairwise_cons.1 hr
  unfold turnK
  rw [List.map_cons, setK]
  by_cases he : e.1 = k
  ·rw [if_pos he, if_pos he]
   congr 1
   conv => rhs; rw [← List.map_id C]
   refine List.map_congr_left fun y hy => ?_
   rw [if_neg fun ey => lessK_ne (r1 y hy) (he.trans ey.symm)]
   rfl
  ·rw [getK, if_neg he] at h
   obtain ⟨y, hy⟩ := Option.isSome_iff_exists.1 h
   have hl : lessK e.1 k = true := r1 _ (getK_mem hy)
   rw [if_neg he, if_neg he, if_neg (by rw [lessK_asymm hl]; simp)]
   congr 1
   exact turnK_set r2 h
theorem turnK_at {C : Cub} {k : List Int} {x : PC} {i : Nat} {e : List Int × PC} (h : C[i]? = some e) : (turnK C k x).take (i + 1) = (turnK C k x).take i ++ [(e.1, if e.1 = k then x else e.2)] := by
 have h1 : (turnK C k x)[i]? = some (e.1, if e.1 = k then x else e.2) := by
  unfold turnK
  rw [List.getElem?_map, h]
  show some _ = some _
  by_cases he : e.1 = k
  ·show some (if e.1 = k then (k, x) else e) = _
   rw [if_pos he, if_pos he, he]
  ·show some (if e.1 = k then (k, x) else e) = _
   rw [if_neg he, if_neg he]
 exact takeG_step h1
theorem turnK_ahead {C : Cub} {k : List Int} {x : PC} (hr : Ris C) {i : Nat} {e : List Int × PC} (h : C[i]? = some e) : ∀ y ∈ (turnK C k x).take i, lessK y.1 e.1 = true := by
 intro y hy
 obtain ⟨j, hj⟩ := List.getElem?_of_mem hy
 have hji : j < i := by
  have := (List.getElem?_eq_some_iff.1 hj).1
  rw [List.length_take] at this
  omega
 rw [List.getElem?_take, if_pos hji] at hj
 unfold turnK at hj
 rw [List.getElem?_map, Option.map_eq_some_iff] at hj
 obtain ⟨z, hz, rfl⟩ := hj
 have hl : lessK z.1 e.1 = true := by
  have := List.pairwise_iff_getElem.1 hr j i (List.getElem?_eq_some_iff.1 hz).1 (List.getElem?_eq_some_iff.1 h).1 hji
  rwa [(List.getElem?_eq_some_iff.1 hz).2, (List.getElem?_eq_some_iff.1 h).2] at this
 by_cases hk : z.1 = k
 ·rw [if_pos hk, ← hk]; exact hl
 ·rw [if_neg hk]; exact hl
end Go.Proofs.YtmepdkdeanbbaaaGreat
namespace Go.Proofs.YtmepdkdeanbbaaaGreat
set_option maxRecDepth 100000

def bseN (N : List Nat) : List Int := N.map fun (n : Nat) => (n : Int)
theorem bseN_is (D : List PDim) : baseP D = bseN (levN D) := by
 unfold baseP bseN levN
 rw [List.map_map]
 rfl
theorem bseN_lev : ∀ N : List Nat, LevD N (bseN N)
 | [] => trivial
 | n :: N => ⟨Int.natCast_nonneg n, Int.le_refl _, bseN_lev N⟩
theorem bseN_len (N : List Nat) : (bseN N).length = N.length := by unfold bseN; rw [List.length_map]
theorem bseN_get (N : List Nat) {j : Nat} (hj : j < N.length) : (bseN N).getD j 0 = ((N.getD j 0 : Nat) : Int) := by
 unfold bseN
 rw [List.getD_eq_getElem?_getD, List.getElem?_map, List.getElem?_eq_getElem hj, List.getD_eq_getElem?_getD, List.getElem?_eq_getElem hj]
 rfl
theorem take_getDp {α : Type} {L : List α} {k : Nat} (x : α) (h : k < L.length) : L.take (k + 1) = L.take k ++ [L.getD k x] := by
 rw [List.take_add_one, List.getElem?_eq_getElem h, List.getD_eq_getElem?_getD, List.getElem?_eq_getElem h]
 rfl
theorem addD_len : ∀ {N : List Nat} {Qs : List (List Pth)} {P : List Pth}, Qs.length = N.length → P.length = N.length → (addD N Qs P).length = N.length
 | [], [], [], _, _ => rfl
 | n :: N, Q :: Qs, p :: P, h, h' => by
  simp only [addD, List.length_cons] at h h' ⊢
  rw [addD_len (by omega) (by omega)]
 | [], _ :: _, _, h, _ => by simp at h
 | [], [], _ :: _, _, h => by simp at h
 | _ :: _, [], _, h, _ => by simp at h
 | _ :: _, _ :: _, [], _, h => by simp at h
abbrev addEj (N : List Nat) (Qs : List (List Pth)) (P : List Pth) (j : Nat) : Nat := addE (N.getD j 0) (Qs.getD j []) (P.getD j [])
abbrev addQj (N : List Nat) (Qs : List (List Pth)) (P : List Pth) (j : Nat) : List Pth := addQ (N.getD j 0) (Qs.getD j []) (P.getD j [])
theorem addD_get : ∀ {N : List Nat} {Qs : List (List Pth)} {P : List Pth} {j : Nat}, j < N.length → Qs.length = N.length → P.length = N.length → (addD N Qs P).getD j [] = addQj N Qs P j
 | n :: N, Q :: Qs, p :: P, 0, _, _, _ => rfl
 | n :: N, Q :: Qs, p :: P, j + 1, hj, h, h' => by
  simp only [addD, List.length_cons, List.getD_cons_succ] at hj h h' ⊢
  rw [addD_get (by omega) (by omega) (by omega)]
  simp only [addQj, List.getD_cons_succ]
 | [], _, _, _, hj, _, _ => by simp at hj
 | _ :: _, [], _, _, _, h, _ => by simp at h
 | _ :: _, _ :: _, [], _, _, _, h => by simp at h
theorem errD_none : ∀ {N : List Nat} {Qs : List (List Pth)} {P : List Pth}, Qs.length = N.length → P.length = N.length → (∀ i, i < N.length → addEj N Qs P i = 0) → errD N Qs P = 0
 | [], [], [], _, _, _ => rfl
 | n :: N, Q :: Qs, p :: P, h, h', ha => by
  rw [errD, if_neg (fun h0 => h0 (ha 0 (by simp)))]
  exact errD_none (by simpa using h) (by simpa using h') fun i hi => by
   have := ha (i + 1) (by simpa using hi)
   simpa only [addEj, List.getD_cons_succ] using this
 | [], _ :: _, _, h, _, _ => by simp at h
 | [], [], _ :: _, _, h, _ => by simp at h
 | _ :: _, [], _, h, _, _ => by simp at h
 | _ :: _, _ :: _, [], _, h, _ => by simp at h
theorem errD_at : ∀ {N : List Nat} {Qs : List (List Pth)} {P : List Pth} {j : Nat}, j < N.length → Qs.length = N.length → P.length = N.length → (∀ i, i < j → addEj N Qs P i = 0) → addEj N Qs P j ≠ 0 → errD N Qs P = addEj N Qs P j
 | n :: N, Q :: Qs, p :: P, 0, _, _, _, _, he => by
  have he' : addE n Q p ≠ 0 := he
  rw [errD, if_pos he']
  rfl
 | n :: N, Q :: Qs, p :: P, j + 1, hj, h, h', ha, he => by
  rw [errD, if_neg (fun h0 => h0 (ha 0 (by simp)))]
  have e : addEj (n :: N) (Q :: Qs) (p :: P) (j + 1) = addEj N Qs P j := by simp only [addEj, List.getD_cons_succ]
  rw [e] at he ⊢
  exact errD_at (by simpa using hj) (by simpa using h) (by simpa using h') (fun i hi => by
   have := ha (i + 1) (by omega)
   simpa only [addEj, List.getD_cons_succ] using this) he
 | [], _, _, _, hj, _, _, _, _ => by simp at hj
 | _ :: _, [], _, _, _, h, _, _, _ => by simp at h
 | _ :: _, _ :: _, [], _, _, _, h, _, _ => by simp at h
def comeD (N : List Nat) (Qs : List (List Pth)) (P : List Pth) (j : Nat) : List (List Pth) := (addD N Qs P).take j ++ Qs.drop j
section
variable {N : List Nat} {Qs : List (List Pth)} {P : List Pth}
theorem comeD_zero : comeD N Qs P 0 = Qs := by simp [comeD]
theorem comeD_all (h : Qs.length = N.length) (h' : P.length = N.length) : comeD N Qs P N.length = addD N Qs P := by
 unfold comeD
 rw [List.take_of_length_le (by rw [addD_len h h']; exact Nat.le_refl _), List.drop_of_length_le (by omega), List.append_nil]
theorem comeD_get (h : Qs.length = N.length) (h' : P.length = N.length) {j : Nat} (hj : j < N.length) : (comeD N Qs P j).getD j [] = Qs.getD j [] := by
 unfold comeD
 rw [List.getD_eq_getElem?_getD, List.getElem?_append_right (by rw [List.length_take, addD_len h h']; omega), List.length_take, addD_len h h', List.getElem?_drop, List.getD_eq_getElem?_getD]
 congr 2
 omega
theorem comeD_succ (h : Qs.length = N.length) (h' : P.length = N.length) {j : Nat} (hj : j < N.length) : (comeD N Qs P j).set j (addQj N Qs P j) = comeD N Qs P (j + 1) := by
 unfold comeD
 have hl : ((addD N Qs P).take j).length = j := by rw [List.length_take, addD_len h h']; omega
 rw [List.set_append_right _ _ (by omega), hl, Nat.sub_self, List.drop_eq_getElem_cons (by omega), List.set_cons_zero, take_getDp [] (by rw [addD_len h h']; exact hj), addD_get hj h h', List.append_assoc]
 rfl
end
theorem addE_ok {n : Nat} {Q : List Pth} {p : Pth} (h : addE n Q p = 0) : addOk n Q p := Classical.byContradiction fun h' => by
 unfold addE at h
 rw [if_neg h'] at h
 split at h <;> cases h
theorem addC_last {n : Nat} {Q : List Pth} {p : Pth} (h : addE n Q p = 0) (hn : 1 ≤ n) : (addC n Q p).length = n ∧ (addC n Q p).getD (n - 1) 0 = ((fnd (addQ n Q p) p : Nat) : Int) := by
 have ho := addE_ok h
 have hl := ho.1.1
 obtain ⟨e1, e2, _⟩ := add_ok ho.1 ho.2
 rw [e1, e2]
 refine ⟨by rw [List.length_map, pres_len, hl], ?_⟩
 rw [List.getD_eq_getElem?_getD, List.getElem?_map, pres_get (by omega), show n - 1 + 1 = n by omega, List.take_of_length_le (by omega)]
 rfl
theorem key_at {N : List Nat} {Qs : List (List Pth)} {P : List Pth} (h : Qs.length = N.length) (h' : P.length = N.length) {j : Nat} (hj : j < N.length) (hl : (P.getD j []).length = N.getD j 0) : (keyC (addD N Qs P) (bseN N) P).take j ++ [((fnd (addQj N Qs P j) (P.getD j []) : Nat) : Int)] = (keyC (addD N Qs P) (bseN N) P).take (j + 1) := by
 have hal := addD_len h h'
 have hkl : (keyC (addD N Qs P) (bseN N) P).length = N.length := by rw [keyC_len (by rw [bseN_len]; omega) (by omega), hal]
 have hg := keyC_get (Qs := addD N Qs P) (v := bseN N) (P := P) (i := j) (by omega) (by rw [bseN_len]; omega) (by omega)
 rw [addD_get hj h h', bseN_get N hj, Int.toNat_natCast, List.take_of_length_le (by omega)] at hg
 rw [List.take_add_one, List.getElem?_eq_getElem (by omega)]
 rw [List.getD_eq_getElem?_getD, List.getElem?_eq_getElem (by omega)] at hg
 rw [← hg]
 rfl
theorem addsD_app (N : List Nat) : ∀ (F F' : List Fct) (Qs : List (List Pth)), addsD N Qs (F ++ F') = if (addsD N Qs F).2 ≠ 0 then addsD N Qs F else addsD N (addsD N Qs F).1 F'
 | [], F', Qs => by simp [addsD]
 | f :: F, F', Qs => by
  rw [List.cons_append, addsD, addsD]
  by_cases h : errD N Qs f.1 ≠ 0
  ·rw [if_pos h, if_pos h, if_pos h]
  ·rw [if_neg h, if_neg h, addsD_app N F F']
theorem addsD_snoc {N : List Nat} {Qs Rs : List (List Pth)} {G : List Fct} {i : Nat} {f : Fct} (h : G[i]? = some f) (h0 : addsD N Qs (G.take i) = (Rs, 0)) : addsD N Qs (G.take (i + 1)) = if errD N Rs f.1 ≠ 0 then (Rs, errD N Rs f.1) else (addD N Rs f.1, 0) := by
 rw [takeG_step h, addsD_app, h0, if_neg (by simp), addsD, addsD]
theorem addsD_stop {N : List Nat} {Qs : List (List Pth)} {G : List Fct} {i : Nat} (h : (addsD N Qs (G.take i)).2 ≠ 0) : addsD N Qs G = addsD N Qs (G.take i) := by
 conv => lhs; rw [← List.take_append_drop i G]
 rw [addsD_app, if_pos h]
def keysG (N : List Nat) (Rs : List (List Pth)) (G : List Fct) : List (List Int) := G.map fun f => keyC Rs (bseN N) f.1
theorem keysG_grown {N : List Nat} {Rs Ts : List (List Pth)} {G : List Fct} (hg : GrownD Rs Ts) (h0 : NoNil Ts) (h : ∀ f ∈ G, HasPth Rs (bseN N) f.1) : keysG N Ts G = keysG N Rs G := by
 unfold keysG
 exact List.map_congr_left fun f hf => keyC_grown hg h0 (h f hf)
theorem keysG_snoc {N : List Nat} {Rs : List (List Pth)} {G : List Fct} {i : Nat} {f : Fct} (h : G[i]? = some f) : keysG N Rs (G.take i) ++ [keyC Rs (bseN N) f.1] = keysG N Rs (G.take (i + 1)) := by
 unfold keysG
 rw [takeG_step h, List.map_append]
 rfl
end Go.Proofs.YtmepdkdeanbbaaaGreat
namespace Go.Proofs.YtmepdkdeanbbaaaGreat
set_option maxRecDepth 100000
open Go.RowKit

theorem nodup_take {α : Type} {L : List α} (h : L.Nodup) {i : Nat} {a : α} (hi : L[i]? = some a) : a ∉ L.take i := by
 have h1 : (L.take (i + 1)).Nodup := h.sublist (List.take_sublist _ _)
 rw [takeG_step hi, List.nodup_append] at h1
 intro hm
 exact h1.2.2 a hm a (List.mem_singleton.2 rfl) rfl
section
variable {Rs : List (List Pth)} {Vs : List (List Int)} {Cs : List Cub} {G : List Fct} {n W m i : Nat} {x : Chn}
structure Fits (W m n : Nat) (Cs : List Cub) (G : List Fct) (x : Chn) : Prop where
 view : x.1.1 < n
 key : isKey W x.1.2
 more : ∀ c ∈ x.2.1, isCell m c
 some_ : x.2.1 ≠ []
 few : x.2.1.length ≤ G.length
 whole : isCell m x.2.2
 sum : withP (Cs.getD x.1.1 []) x.1.2 x.2.1 = (x.2.2, 0)
theorem put_fits (hl : Cs.length = n) (hC : ∀ v, v < n → Cuboid W m (Cs.getD v [])) (hok : ∀ v, v < n → okV (Cs.getD v []) (gthF (kC Rs (Vs.getD v [])) oneF G)) (hG : ∀ f ∈ G, isCell m (oneF f)) (hkey : ∀ v, v < n → ∀ f ∈ G, isKey W (kC Rs (Vs.getD v []) f)) (hx : (chgs Rs Vs Cs G n)[i]? = some x) :
  Fits W m n (putsV Cs ((chgs Rs Vs Cs G n).take i)) G x := by
 have hm := List.mem_of_getElem? hx
 obtain ⟨h1, ⟨f, hf, hfk⟩, h3, h4⟩ := mem_chgs.1 hm
 have hM : ∀ c ∈ x.2.1, isCell m c := fun c hc => by
  rw [h3] at hc
  unfold cellsV at hc
  obtain ⟨f', hf', rfl⟩ := List.mem_map.1 hc
  exact hG f' (List.mem_filter.1 hf').1
 have hne : x.2.1 ≠ [] := fun h0 => by
  have h5 : oneF f ∈ cellsV (kC Rs (Vs.getD x.1.1 [])) oneF G x.1.2 := by unfold cellsV; exact List.mem_map.2 ⟨f, List.mem_filter.2 ⟨hf, decide_eq_true hfk⟩, rfl⟩
  rw [← h3, h0] at h5
  cases h5
 have h5 : (withP (Cs.getD x.1.1 []) x.1.2 x.2.1).2 = 0 := hok x.1.1 h1 (x.1.2, x.2.1) (mem_gthF.2 ⟨⟨f, hf, hfk⟩, h3⟩)
 have hall : ∀ c ∈ (getK (Cs.getD x.1.1 []) x.1.2).toList ++ x.2.1, isCell m c := fun c hc => by
  rcases List.mem_append.1 hc with hc | hc
  ·rcases hq : getK (Cs.getD x.1.1 []) x.1.2 with _ | y
   ·rw [hq] at hc; simp at hc
   ·rw [hq] at hc
    simp at hc
    subst hc
    exact (hC x.1.1 h1).cell _ (getK_mem hq)
  ·exact hM c hc
 obtain ⟨e1, i1⟩ := sum_isCell hall (fun h0 => hne (List.append_eq_nil_iff.1 h0).2) h5
 have hg := putsV_get (n := n) (fun v k => (withP (Cs.getD v []) k (cellsV (kC Rs (Vs.getD v [])) oneF G k)).1) x.1.1 x.1.2 ((chgs Rs Vs Cs G n).take i) Cs hl (fun y hy => by
  obtain ⟨a1, _, a3, a4⟩ := mem_chgs.1 (List.mem_of_mem_take hy)
  exact ⟨a1, by rw [a4, a3]⟩)
 have hno : ¬ ∃ y ∈ (chgs Rs Vs Cs G n).take i, y.1 = (x.1.1, x.1.2) := by
  rintro ⟨y, hy, e⟩
  have h6 := nodup_take (chgs_one Rs Vs Cs G n) (i := i) (a := x.1) (by rw [List.getElem?_map, hx]; rfl)
  refine h6 ?_
  rw [← List.map_take]
  exact List.mem_map.2 ⟨y, hy, e⟩
 rw [if_neg hno] at hg
 refine ⟨h1, by rw [← hfk]; exact hkey x.1.1 h1 f hf, hM, hne, ?_, ?_, ?_⟩
 ·rw [h3]; unfold cellsV; rw [List.length_map]; exact List.length_filter_le _ _
 ·rw [h4]
  show isCell m (cSum _).1
  rw [e1]
  exact i1
 ·have e2 : withP ((putsV Cs ((chgs Rs Vs Cs G n).take i)).getD x.1.1 []) x.1.2 x.2.1 = withP (Cs.getD x.1.1 []) x.1.2 x.2.1 := by unfold withP; rw [hg]
  rw [e2, h4]
  exact Prod.ext rfl h5
end
end Go.Proofs.YtmepdkdeanbbaaaGreat
namespace Go.Proofs.YtmepdkdeanbbaaaGreat
set_option maxRecDepth 100000

def LxD : List PDim := [([100], [[108], [109]])]
def LxM : List Txt := [[118]]
def LxV : List (List Int) := [[1]]
def LxF : List Fct := [([[[97], [120]]], [5]), ([[[97], [121]]], [7]), ([[[98], [120]]], [1])]
def LxR : Rws := [([[[97]]], (2, [12], [5], [7])), ([[[98]]], (1, [1], [1], [1]))]
theorem lx_may : mayS LxD LxM LxV := by decide +kernel
theorem lx_views : viewsP LxD LxV = [[2], [1]] := by decide +kernel
theorem lx_apply : (applyP LxD LxM LxV [] (LxD.map fun _ => []) LxF).2 = 0 ∧ (applyP LxD LxM LxV [] (LxD.map fun _ => []) LxF).1.1 = LxF.map entF := by decide +kernel
theorem lx_cnt : cntE (LxF.map entF) = 3 := by decide +kernel
theorem lx_rows {L : Rws} (h : IsRows 1 (kP [1]) cellE (LxF.map entF) L) : L = LxR := by
 refine h.one ⟨by unfold RisL lessL; decide +kernel, fun x => ⟨fun hx => ?_, ?_⟩⟩
 ·simp only [LxR, List.mem_cons, List.not_mem_nil, or_false] at hx
  rcases hx with rfl | rfl <;> decide +kernel
 ·rintro ⟨⟨f, hf, hk⟩, hc⟩
  obtain ⟨k, c⟩ := x
  simp only at hk hc
  subst hk
  subst hc
  simp only [LxF, List.map_cons, List.map_nil, List.mem_cons, List.not_mem_nil, or_false] at hf
  rcases hf with rfl | rfl | rfl <;> decide +kernel
def LxB : Rws := [([[[97], [120]]], (1, [5], [5], [5])), ([[[97], [121]]], (1, [7], [7], [7])), ([[[98], [120]]], (1, [1], [1], [1]))]
theorem lx_base : IsRows 1 (kP [2]) cellE (LxF.map entF) LxB := by
 refine ⟨by unfold RisL lessL; decide +kernel, fun x => ⟨fun hx => ?_, ?_⟩⟩
 ·simp only [LxB, List.mem_cons, List.not_mem_nil, or_false] at hx
  rcases hx with rfl | rfl | rfl <;> decide +kernel
 ·rintro ⟨⟨f, hf, hk⟩, hc⟩
  obtain ⟨k, c⟩ := x
  simp only at hk hc
  subst hk
  subst hc
  simp only [LxF, List.map_cons, List.map_nil, List.mem_cons, List.not_mem_nil, or_false] at hf
  rcases hf with rfl | rfl | rfl <;> decide +kernel
end Go.Proofs.YtmepdkdeanbbaaaGreat
namespace Go.Proofs.YtmepdkdeanbbaaaGreat
set_option maxRecDepth 100000
open Go.RowKit

def valsT (κ : Fct → PKey) (G : List Fct) (K : PKey) (i t : Nat) : List (List Int) := (((G.take t).drop i).filter fun f => decide (κ f = K)).map (·.2)
section
variable {κ : Fct → PKey} {G : List Fct} {K : PKey} {i t m : Nat}
theorem valsT_zero : valsT κ G K i i = [] := by
 unfold valsT
 rw [List.drop_eq_nil_of_le (by rw [List.length_take]; omega)]
 rfl
theorem valsT_step {g : Fct} (h : G[t]? = some g) (hi : i ≤ t) : valsT κ G K i (t + 1) = if κ g = K then valsT κ G K i t ++ [g.2] else valsT κ G K i t := by
 have hl := (List.getElem?_eq_some_iff.1 h).1
 unfold valsT
 rw [takeG_step h, List.drop_append_of_le_length (by rw [List.length_take]; omega), List.filter_append, List.map_append]
 by_cases hk : κ g = K
 ·rw [if_pos hk, List.filter_cons_of_pos (by simpa using hk)]
  rfl
 ·rw [if_neg hk, List.filter_cons_of_neg (by simpa using hk)]
  simp
theorem valsT_len : (valsT κ G K i t).length ≤ G.length := by
 unfold valsT
 rw [List.length_map]
 refine Nat.le_trans (List.length_filter_le _ _) ?_
 rw [List.length_drop, List.length_take]
 omega
theorem valsT_all (ht : G.length ≤ t) : (valsT κ G K i t).map oneC = cellsV κ oneF (G.drop i) K := by
 unfold valsT cellsV
 rw [List.take_of_length_le ht, List.map_map]
 rfl
def okT (m : Nat) (κ : Fct → PKey) (G : List Fct) (i : Nat) : Prop := ∀ f ∈ G.take i, cMay (sumC m (cellsV κ oneF G (κ f)))
theorem okT_zero : okT m κ G 0 := fun f hf => by simp at hf
theorem okT_had {f : Fct} (h : okT m κ G i) (hf : G[i]? = some f) (hh : κ f ∈ fstK κ (G.take i) []) : okT m κ G (i + 1) := fun g hg => by
 rw [takeG_step hf] at hg
 rcases List.mem_append.1 hg with hg | hg
 ·exact h g hg
 ·rw [List.mem_singleton.1 hg]
  rcases (mem_fstK κ _ [] _).1 hh with h1 | ⟨g', hg', e⟩
  ·simp at h1
  ·rw [← e]
   exact h g' hg'
theorem okT_new {f : Fct} (h : okT m κ G i) (hf : G[i]? = some f) (hh : cMay (sumC m (cellsV κ oneF G (κ f)))) : okT m κ G (i + 1) := fun g hg => by
 rw [takeG_step hf] at hg
 rcases List.mem_append.1 hg with hg | hg
 ·exact h g hg
 ·rw [List.mem_singleton.1 hg]
  exact hh
theorem okT_all (h : okT m κ G i) (hi : G.length ≤ i) : okF m κ oneF G := fun f hf => h f (by rw [List.take_of_length_le hi]; exact hf)
theorem fold_new (hm : m ≤ 2) (hG : ∀ f ∈ G, isVal m f.2) (hn : G.length ≤ 1000) (ht : G.length ≤ t) {f : Fct} (hf : G[i]? = some f) (hk : κ f = K) (hnew : K ∉ fstK κ (G.take i) []) : cFold m (valsT κ G K i t) = if cMay (sumC m (cellsV κ oneF G K)) then (sumC m (cellsV κ oneF G K), 0) else (zeroC, 14) := by
 have h1 : (valsT κ G K i t).map oneC = cellsV κ oneF G K := (valsT_all ht).trans (cellsV_from hnew)
 rw [foldV_is hm (Nat.le_trans valsT_len hn) ?_ ?_, h1]
 ·intro h0
  rw [h0] at h1
  exact cellsV_ne.2 ⟨f, List.mem_of_getElem? hf, hk⟩ h1.symm
 ·intro v hv
  unfold valsT at hv
  obtain ⟨g, hg, rfl⟩ := List.mem_map.1 hv
  exact hG g (List.mem_of_mem_take (List.mem_of_mem_drop (List.mem_filter.1 hg).1))
theorem doneF_mem {k : PKey} : (∃ t : Nat, ∃ e : PKey × PC, (doneF m κ oneF G i)[t]? = some e ∧ e.1 = k) ↔ k ∈ fstK κ (G.take i) [] := by
 rw [← doneF_keys m κ oneF G i, List.mem_map]
 constructor
 ·rintro ⟨t, e, h, rfl⟩
  exact ⟨e, List.mem_of_getElem? h, rfl⟩
 ·rintro ⟨e, h, rfl⟩
  obtain ⟨t, ht⟩ := List.getElem?_of_mem h
  exact ⟨t, e, ht, rfl⟩
theorem doneF_len : (doneF m κ oneF G i).length ≤ i := by
 have h1 := congrArg List.length (doneF_keys m κ oneF G i)
 rw [List.length_map] at h1
 rw [h1]
 refine Nat.le_trans (fstK_len κ _ []) ?_
 rw [List.length_take]
 simp
 omega
end
def hadT (L : Rws) (K : PKey) (j : Nat) : Prop := ∃ t e, t < j ∧ L[t]? = some e ∧ e.1 = K
theorem hadT_zero {L : Rws} {K : PKey} : ¬ hadT L K 0 := fun ⟨t, e, h, _⟩ => by omega
theorem hadT_step {L : Rws} {K : PKey} {j : Nat} {e : PKey × PC} (h : L[j]? = some e) : hadT L K (j + 1) ↔ hadT L K j ∨ e.1 = K := by
 constructor
 ·rintro ⟨t, x, ht, hx, hk⟩
  by_cases hj : t = j
  ·subst hj
   rw [h] at hx
   injection hx with hx
   subst hx
   exact .inr hk
  ·exact .inl ⟨t, x, by omega, hx, hk⟩
 ·rintro (⟨t, x, ht, hx, hk⟩ | hk)
  ·exact ⟨t, x, by omega, hx, hk⟩
  ·exact ⟨j, e, by omega, h, hk⟩
theorem hadT_all {L : Rws} {K : PKey} {j : Nat} (hj : L.length ≤ j) : hadT L K j ↔ ∃ t : Nat, ∃ e : PKey × PC, L[t]? = some e ∧ e.1 = K := by
 constructor
 ·rintro ⟨t, e, _, h, k⟩
  exact ⟨t, e, h, k⟩
 ·rintro ⟨t, e, h, k⟩
  exact ⟨t, e, by have := (List.getElem?_eq_some_iff.1 h).1; omega, h, k⟩
def hadB (L : Rws) (K : PKey) (j : Nat) (b : Bool) : Prop := b = true ↔ hadT L K j
theorem hadB_zero {L : Rws} {K : PKey} : hadB L K 0 false := ⟨fun h => (nomatch h), fun h => absurd h hadT_zero⟩
theorem hadB_yes {L : Rws} {K : PKey} {j : Nat} {e : PKey × PC} (h : L[j]? = some e) (hk : e.1 = K) : hadB L K (j + 1) true := ⟨fun _ => (hadT_step h).2 (.inr hk), fun _ => rfl⟩
theorem hadB_no {L : Rws} {K : PKey} {j : Nat} {e : PKey × PC} (hb : hadB L K j false) (h : L[j]? = some e) (hk : e.1 ≠ K) : hadB L K (j + 1) false := ⟨fun h => (nomatch h), fun h1 => ((hadT_step h).1 h1).elim (fun h2 => hb.2 h2) fun h2 => absurd h2 hk⟩
theorem hadB_stay {L : Rws} {K : PKey} {j : Nat} {e : PKey × PC} (hb : hadB L K j true) (h : L[j]? = some e) : hadB L K (j + 1) true := ⟨fun _ => (hadT_step h).2 (.inl (hb.1 rfl)), fun _ => rfl⟩
theorem hadB_all {κ : Fct → PKey} {G : List Fct} {K : PKey} {i m j : Nat} {b : Bool} (hb : hadB (doneF m κ oneF G i) K j b) (hj : (doneF m κ oneF G i).length ≤ j) : (b = true → K ∈ fstK κ (G.take i) []) ∧ (b = false → K ∉ fstK κ (G.take i) []) := by
 have h1 : b = true ↔ K ∈ fstK κ (G.take i) [] := hb.trans ((hadT_all hj).trans doneF_mem)
 refine ⟨h1.1, fun h h2 => ?_⟩
 rw [h1.2 h2] at h
 cases h
end Go.Proofs.YtmepdkdeanbbaaaGreat
namespace Go.Proofs.YtmepdkdeanbbaaaGreat
set_option maxRecDepth 100000
open Go.RowKit

def cutP (K : PKey) : PKey := (K.take 5).map fun p => p.take 5
theorem cutP_step {K : PKey} {k : Nat} {x : List Txt} (h : K[k]? = some x) (hk : k < 5) : (cutP K).take k ++ [x.take 5] = (cutP K).take (k + 1) := by
 have h1 : (cutP K)[k]? = some (x.take 5) := by
  unfold cutP
  rw [List.getElem?_map, List.getElem?_take, if_pos hk, h]
  rfl
 exact (takeG_step h1).symm
theorem cutP_len (K : PKey) : (cutP K).length = min 5 K.length := by
 unfold cutP
 rw [List.length_map, List.length_take]
theorem cell_sl (w : World) (A : Option Addr) (n c : Nat) : ∀ j u, [Value.slice A n c][j]? = some u → (w.alloc (.cells #[.slice A n c] 23)).cell? ((⟨w.heap.size, 0, none⟩ : Addr).add j) = some u := by
 intro j u hj
 rw [add_flat, Nat.zero_add, (Block.new w 23 #[.slice A n c]).cell j]
 simpa using hj
theorem sl_one (A : Option Addr) (n c : Nat) : ∀ u ∈ [Value.slice A n c], u.oneCell' = true := by
 intro u hu
 simp at hu
 subst hu
 rfl
set_option maxRecDepth 100000 in
set_option maxHeartbeats 2000000 in
theorem cutL_any {w : World} {A : Option Addr} {n c : Nat} {K : PKey} (h : Row elPathR 1 w (fun b => b < w.heap.size) A n c K) :
  Calls Tryz.prog 33 #[.slice A n c] w fun e w' => (∃ A' n' c', e = .returned (.slice A' n' c') ∧ Row elPathR 1 w' (fun b => b < w'.heap.size) A' n' c' (cutP K)) ∧ Below w.heap.size w w' := by
 have HK := Lib.hid h
 have HL := Lib.hid h.len
 have hnm := h.lenMax
 clear h
 go_enter Tryz.func33, Tryz.ntmps33
 go_wp2_with fail
 go_loopw [3, 4] (fun v i wr => ∃ k : Nat, k ≤ n ∧ k ≤ 5 ∧ i = .int .i64 k ∧ Hid (OwnR elPathR 23 1 wr w.heap.size (fun b => b < w.heap.size) v ((cutP K).take k)) ∧ Below w.heap.size w wr) (fun _ i _ => n - (intOf i).toNat)
 case atStart => exact ⟨0, Nat.zero_le _, Nat.zero_le _, rfl, Lib.hid (OwnR.nil_ _ _ _), Below.refl _ _⟩
 case round =>
  obtain ⟨k, hk, hk5, rfl, hO, hB⟩ := hrel
  by_cases hgo : k < n ∧ k < 5
  ·obtain ⟨hlt, hlt5⟩ := hgo
   obtain ⟨b, o, A', n', c', x, rfl, _, _, gk, hl, hxe⟩ := (HK.out.mv elPathR_ok (Mv.below hB fun b hb => hb)).at1 hlt
   have i0 : (0 : Int) ≤ (k : Int) := by omega
   have i1 : (k : Int) < (n : Int) := by omega
   have i2 : decide ((k : Int) < 5) = true := decide_eq_true (by omega)
   have hT := Lib.hid (cutP_step hxe.out hlt5)
   have hxl := hl.len
   have hxm := hl.lenMax
   have hxc := hl.cap
   have hxcm := hl.capMax
   have hlb : Hid (((cutP K).take k).length ≤ 1000000) := Lib.hid (Nat.le_trans (List.length_take_le k _) (by omega))
   have hlo := hO.out.lt
   have hz := hB.size
   by_cases h5 : (5 : Int) < (n' : Int)
   ·have hc5 : (5 : Int) ≤ (c' : Int) := by omega
    have HR := Lib.hid (hl.take_ (k := 5) (by omega))
    clear hl
    have HO1 := Lib.hid (hO.out.alloc elPathR_ok (.cells #[.slice A' 5 c'] 23))
    have HE : Hid (elPathR (wr.alloc (.cells #[.slice A' 5 c'] 23)) (fun b => b < w.heap.size ∧ u3.ownBlock ≠ some b) [.slice A' 5 c'] (x.take 5)) := Lib.hid ⟨A', 5, c', rfl, HR.out.mv elText_ok ((Mv.alloc wr _ _).trans (Mv.to _ fun b hb _ => ⟨hb, fun e => by have := (hlo b e).1; omega⟩))⟩
    have hB1 := hB.trans ((below_a1 wr (.cells #[.slice A' 5 c'] 23)).mono hz)
    have hbs : w.heap.size ≤ (wr.alloc (.cells #[.slice A' 5 c'] 23)).heap.size := hB1.size
    clear hO
    go_wp2_with (at_builtin; refine wpList_appX elPathR_ok rfl _ _ rfl info_rowT Tryz.underlying69 rfl (by decide) w.heap.size _ _ _ rfl HO1.out _ rfl [.slice A' 5 c'] rfl (x.take 5) (cell_sl wr A' 5 c') (sl_one A' 5 c') HE.out hlb.out hbs ?_)
    intro v' w8 hO8 hG8
    have hF := Lib.hid (show OwnR elPathR 23 1 w8 w.heap.size (fun b => b < w.heap.size) v' ((cutP K).take (k + 1)) ∧ Below w.heap.size w w8 from ⟨by rw [← hT.out]; exact hO8, hB1.trans (hG8.below_ hbs fun j e => (hlo j e).1)⟩)
    clear hO8 hG8 hB1
    go_wp2_with fail
    go_roundw
    case rel => exact ⟨k + 1, by omega, by omega, by go_num, Lib.hid hF.out.1, hF.out.2⟩
    case measure => simp [intOf]; omega
   ·have HR : Hid (Row elText 1 wr (fun b => b < w.heap.size) A' n' c' (x.take 5)) := Lib.hid (by rw [List.take_of_length_le (by omega)]; exact hl)
    clear hl
    have HO1 := Lib.hid (hO.out.alloc elPathR_ok (.cells #[.slice A' n' c'] 23))
    have HE : Hid (elPathR (wr.alloc (.cells #[.slice A' n' c'] 23)) (fun b => b < w.heap.size ∧ u3.ownBlock ≠ some b) [.slice A' n' c'] (x.take 5)) := Lib.hid ⟨A', n', c', rfl, HR.out.mv elText_ok ((Mv.alloc wr _ _).trans (Mv.to _ fun b hb _ => ⟨hb, fun e => by have := (hlo b e).1; omega⟩))⟩
    have hB1 := hB.trans ((below_a1 wr (.cells #[.slice A' n' c'] 23)).mono hz)
    have hbs : w.heap.size ≤ (wr.alloc (.cells #[.slice A' n' c'] 23)).heap.size := hB1.size
    clear hO
    go_wp2_with (at_builtin; refine wpList_appX elPathR_ok rfl _ _ rfl info_rowT Tryz.underlying69 rfl (by decide) w.heap.size _ _ _ rfl HO1.out _ rfl [.slice A' n' c'] rfl (x.take 5) (cell_sl wr A' n' c') (sl_one A' n' c') HE.out hlb.out hbs ?_)
    intro v' w8 hO8 hG8
    have hF := Lib.hid (show OwnR elPathR 23 1 w8 w.heap.size (fun b => b < w.heap.size) v' ((cutP K).take (k + 1)) ∧ Below w.heap.size w w8 from ⟨by rw [← hT.out]; exact hO8, hB1.trans (hG8.below_ hbs fun j e => (hlo j e).1)⟩)
    clear hO8 hG8 hB1
    go_wp2_with fail
    go_roundw
    case rel => exact ⟨k + 1, by omega, by omega, by go_num, Lib.hid hF.out.1, hF.out.2⟩
    case measure => simp [intOf]; omega
  ·have hall : (cutP K).take k = cutP K := by
    refine List.take_of_length_le ?_
    rw [cutP_len]
    have := HL.out
    omega
   have hF := hO.out
   rw [hall] at hF
   obtain ⟨A9, c9, e9, hR9⟩ := hF.read elPathR_ok
   have hR : Row elPathR 1 wr (fun b => b < wr.heap.size) A9 (cutP K).length c9 (cutP K) := hR9.mv elPathR_ok (Mv.to wr fun b _ hb => hb)
   subst e9
   have HF := Lib.hid hR
   clear hO hF hR9 hR
   by_cases hlt : k < n
   ·have i1 : (k : Int) < (n : Int) := by omega
    have i2 : decide ((k : Int) < 5) = false := decide_eq_false (by omega)
    go_wp2_with fail
    go_ret
    exact ⟨⟨_, _, _, rfl, HF.out⟩, hB⟩
   ·have i1 : ¬ (k : Int) < (n : Int) := by omega
    go_wp2_with fail
    go_ret
    exact ⟨⟨_, _, _, rfl, HF.out⟩, hB⟩
end Go.Proofs.YtmepdkdeanbbaaaGreat
