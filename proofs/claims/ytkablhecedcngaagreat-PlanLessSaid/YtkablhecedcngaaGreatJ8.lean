/- WideTot, Wire -/
import Derived.Test.YtkablhecedcngaaGreatJ5
import Derived.Deep.DeepFit
import Derived.Deep.RegionWith
namespace Go.Proofs.YtkablhecedcngaaGreat
set_option maxRecDepth 100000
set_option maxHeartbeats 8000000
open Go.RowKit
open Go.Lib (hid)
theorem Ypa (s x:Int) (w:World) (h0 : -19807040628566084398385987584≤s) (h1:s<19807040628566084398385987584) (k0 : -9223372036854775808≤x) (k1:x≤9223372036854775807) :
  Calls Tryz.prog 164 #[.agg #[.int .i64 (s / 4294967296),.int .i64 (s % 4294967296)],.agg #[.int .i64 (x / 4294967296),.int .i64 (x % 4294967296)]] w fun e w'=>e=.returned (.agg #[.int .i64 ((s+x) / 4294967296),.int .i64 ((s+x) % 4294967296)])∧Below w.heap.size w w':=by
 refine (Yo9 _ _ _ _ w (by omega) (by omega) (by omega) (by omega) (by omega) (by omega) (by omega) (by omega)).mono ?_
 rintro e w1 ⟨rfl,hb⟩;rw [show s / 4294967296+x / 4294967296+(s % 4294967296+x % 4294967296) / 4294967296=(s+x) / 4294967296 by omega,show (s % 4294967296+x % 4294967296) % 4294967296=(s+x) % 4294967296 by omega]
 exact ⟨rfl,hb⟩
theorem Yae (A:Option Addr) (n c:Nat) (l:List Int) (w:World) (hr:Yx w w.heap.size A n c l) (hn:n≤1000000) (hx:∀ x∈l,-9223372036854775808≤x∧x≤9223372036854775807) (H L x:Int)
  (hs:(wIn (Y2 l)∧H=Y2 l / 4294967296∧L=Y2 l % 4294967296∧x=0)∨(¬ wIn (Y2 l)∧H=0∧L=0∧x=14)) :
  Calls Tryz.prog 152 #[.slice A n c] w fun e w'=>e=.returned (.tuple #[.agg #[.int .i64 H,.int .i64 L],.int .i64 x])∧Below w.heap.size w w':=by
 have hs0:=hid hs
 have hlen:=hid hr.len
 clear hs;go_enter Tryz.func152,Tryz.ntmps152;go_wp2;go_loopw [10] (fun i wr=>∃ (k:Nat) (s:Int),k≤n∧i=.int .i64 k∧Hid (s=Y2 (l.take k))∧Block wr w.heap.size 218 #[.int .i64 0,.int .i64 0]∧Block wr (w.heap.size+1) 218 #[.int .i64 (s / 4294967296),.int .i64 (s % 4294967296)]∧Below w.heap.size w wr) (fun i _=>n - (intOf i).toNat)
 case atStart=>exact ⟨0,0,Nat.zero_le _,rfl,hid (by simp [Y2]),by simpa using Block.alloc (Block.new w 218 #[.int .i64 0,.int .i64 0]) (.cells #[.int .i64 0,.int .i64 0] 218),by simpa using Block.new (w.alloc (.cells #[.int .i64 0,.int .i64 0] 218)) 218 #[.int .i64 0,.int .i64 0],We _ _ _⟩
 case round =>
  obtain ⟨k,s,hk,rfl,hse,hb0,hb1,hbe⟩:=hrel
  have hsb : -9223372036854775808*1000000≤s∧s≤9223372036854775807*1000000:=by
   have h1:=Hb (l:=l.take k) fun y hy=>hx y (List.mem_of_mem_take hy)
   have h2:(l.take k).length≤1000000:=by rw [List.length_take]; omega
   rw [← hse.out] at h1;omega
  have hc0:wr.cell? ⟨w.heap.size+1,0,none⟩=some (.int .i64 (s / 4294967296)):=hb1.cell 0
  have hc1:wr.cell? ⟨w.heap.size+1,1,none⟩=some (.int .i64 (s % 4294967296)):=hb1.cell 1
  have hz:w.heap.size+1<wr.heap.size:=hb1.lt
  by_cases hlt:k<n
  ·obtain ⟨b,o,y,rfl,hb,hcy,hye⟩:=(hr.below hbe (Nat.le_refl _)).at_ hlt
   have hyb : -9223372036854775808≤y∧y≤9223372036854775807:=by
    rw [hye.out,List.getD_eq_getElem?_getD,List.getElem?_eq_getElem (by rw [hlen.out]; exact hlt)]
    exact hx _ (List.getElem_mem _)
   have hsy:Hid (s+y=Y2 (l.take (k+1))):=hid (by rw [Yac (by rw [hlen.out]; exact hlt),← hse.out,← hye.out])
   have i0:(0:Int)≤(k:Int):=by omega
   have i1:(k:Int)<(n:Int):=by omega
   have hcap:=hr.cap
   have hcm:=hr.Z1
   go_wp2_with fail;go_region_with (first
    | (go_at_call 165; refine (Yo0 y _ hyb.1 hyb.2).mono ?_; rintro e w3 ⟨rfl,hbc⟩; have hk0:=(hbc.cell (p:=⟨w.heap.size+1,0,none⟩) hz).trans hc0; have hk1:=(hbc.cell (p:=⟨w.heap.size+1,1,none⟩) hz).trans hc1)
    | (go_at_call 164; refine (Ypa s y _ (by omega) (by omega) hyb.1 hyb.2).mono ?_; rintro e w4 ⟨rfl,hbd⟩; have hB0:=Block.below (Block.below (w:=wr.drew) hb1 hbc hz) hbd (Nat.lt_of_lt_of_le hz hbc.size); have hf0:=hB0.free 0; have hf1:=hB0.free 1; have hl0:w4.cell? ⟨w.heap.size+1,0,none⟩=some (.int .i64 (s / 4294967296)):=hB0.cell 0; have hl1:w4.cell? ⟨w.heap.size+1,1,none⟩=some (.int .i64 (s % 4294967296)):=hB0.cell 1))
   all_goals
    have hN:=hid ((hB0.Yo 0 (.int .i64 ((s+y) / 4294967296))).Yo 1 (.int .i64 ((s+y) % 4294967296)))
    have hM:=hid ((Block.below (Block.below (w:=wr.drew) hb0 hbc (Nat.lt_of_succ_lt hz)) hbd (Nat.lt_of_lt_of_le (Nat.lt_of_succ_lt hz) hbc.size) |>.Yl (w.heap.size+1) 0 (.int .i64 ((s+y) / 4294967296)) (by omega)).Yl (w.heap.size+1) 1 (.int .i64 ((s+y) % 4294967296)) (by omega))
    have hE:Below w.heap.size w w4:=Yb (Yb (Below.drew hbe) hbc) hbd
    have hE2:=hid ((hE.setCell (p:=⟨w.heap.size+1,0,none⟩) (by simp) (.int .i64 ((s+y) / 4294967296))).setCell (p:=⟨w.heap.size+1,1,none⟩) (by simp) (.int .i64 ((s+y) % 4294967296)))
    clear hE hbc hbd hB0 hb0 hb1 hbe hc0 hc1 hcy hl0 hl1 hf0 hf1 hk0 hk1;go_wp2_with fail;go_roundw
    case rel=>exact ⟨k+1,s+y,by omega,by go_num,hsy,hM.out,hN.out,hE2.out⟩
    case measure=>simp [intOf]; omega
  ·have hkn:k=n:=by omega
   have hse2:s=Y2 l:=by rw [hse.out,hkn,← hlen.out,List.take_length]
   have HS:=hid hs0.out
   rw [← hse2] at HS;clear hse hse2 hs0
   have hi1:¬ (k:Int)<(n:Int):=by omega
   clear hkn
   rcases HS.out with ⟨hm,rfl,rfl,rfl⟩ | ⟨hm,rfl,rfl,rfl⟩
   case' inl=>have hC:=hid (Yla (s / 4294967296) (s % 4294967296) wr ((Ybv s).2 hm))
   case' inr=>have hC:=hid (Yk9 (s / 4294967296) (s % 4294967296) wr (fun h=>hm ((Ybv s).1 h)))
   all_goals
    clear hm HS;go_wp2_with fail;refine hC.out.mono ?_;rintro e w5 ⟨rfl,hb⟩
    have hbl:=hb0.below hb hb0.lt
    have hbe5:=Yb hbe hb
    have hd0:w5.cell? ⟨w.heap.size,0,none⟩=some (.int .i64 0):=hbl.cell 0
    have hd1:w5.cell? ⟨w.heap.size,1,none⟩=some (.int .i64 0):=hbl.cell 1
    have hf0:=hbl.free 0
    have hf1:=hbl.free 1
    clear hb hbe hb0 hb1 hc0 hc1;go_wp2_with fail;refine bodyPost_ret (Yj rfl _ _ w.heap.size _ _ rfl ((hbl.Yo 0 _).Yo 1 _) Tryz.underlying218 rfl Sh) rfl ?_;exact ⟨rfl,(hbe5.setCell (p:=⟨w.heap.size,0,none⟩) (Nat.le_refl _) _).setCell (p:=⟨w.heap.size,1,none⟩) (Nat.le_refl _) _⟩
end Go.Proofs.YtkablhecedcngaaGreat
