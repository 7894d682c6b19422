/- Lay -/
import Derived.Shelf.Slices.Equal
import Derived.Shelf.Strings.Builder1
import Derived.Shelf.Strings.Builder2
import Derived.Shelf.Strings.OnBuilder
import Derived.Test.YtmcccpbpijnbmaaProg
namespace Go.Proofs
open Go.Shelf
def Try.lays156_ren : Go.Shelf.Ren := ⟨fun | 156 => 66 | 165 => 68 | 166 => 69 | 169 => 70 | 240 => 71 | 241 => 72 | 276 => 73 | 277 => 74 | n => n, fun | 31 => 23 | 9 => 9 | 3 => 3 | 4 => 4 | 0 => 0 | 20 => 20 | 72 => 91 | 76 => 95 | 70 => 89 | 37 => 46 | 75 => 94 | 127 => 98 | 164 => 99 | 5 => 5 | 80 => 97 | n => n, fun | n => n⟩
theorem Try.lays156 : Go.Proofs.Lays.n156 Try.prog Try.lays156_ren := {
 mixed := by kernel_rfl
 f156 := Try.func66.trans (congrArg some (by kernel_rfl))
 f165 := Try.func68.trans (congrArg some (by kernel_rfl))
 f166 := Try.func69.trans (congrArg some (by kernel_rfl))
 f169 := Try.func70.trans (congrArg some (by kernel_rfl))
 f240 := Try.func71.trans (congrArg some (by kernel_rfl))
 f241 := Try.func72.trans (congrArg some (by kernel_rfl))
 f276 := Try.func73.trans (congrArg some (by kernel_rfl))
 f277 := Try.func74.trans (congrArg some (by kernel_rfl))
 t0 := Try.underlying0
 a0 := Try.isAgg0
 z0 := Try.sizeOf0
 v0 := Try.zeroValue0
 t3 := Try.underlying3
 a3 := Try.isAgg3
 z3 := Try.sizeOf3
 v3 := Try.zeroValue3
 t4 := Try.underlying4
 a4 := Try.isAgg4
 z4 := Try.sizeOf4
 v4 := Try.zeroValue4
 t9 := Try.underlying9
 a9 := Try.isAgg9
 z9 := Try.sizeOf9
 v9 := Try.zeroValue9
 t20 := Try.underlying20
 a20 := Try.isAgg20
 z20 := Try.sizeOf20
 v20 := Try.zeroValue20
 t31 := Try.underlying23
 a31 := Try.isAgg23
 z31 := Try.sizeOf23
 v31 := Try.zeroValue23
 t37 := Try.underlying46
 a37 := Try.isAgg46
 z37 := Try.sizeOf46
 v37 := Try.zeroValue46
 t70 := Try.underlying89
 a70 := Try.isAgg89
 z70 := Try.sizeOf89
 v70 := Try.zeroValue89
 t72 := Try.underlying91
 a72 := Try.isAgg91
 z72 := Try.sizeOf91
 v72 := Try.zeroValue91
 t75 := Try.underlying94
 a75 := Try.isAgg94
 z75 := Try.sizeOf94
 v75 := Try.zeroValue94
 t76 := Try.underlying95
 a76 := Try.isAgg95
 z76 := Try.sizeOf95
 v76 := Try.zeroValue95
 t127 := Try.underlying98
 a127 := Try.isAgg98
 z127 := Try.sizeOf98
 v127 := Try.zeroValue98
 t164 := Try.underlying99
 a164 := Try.isAgg99
 z164 := Try.sizeOf99
 v164 := Try.zeroValue99 }
theorem Try.Builder_Extra_156 : Builder.Extra Try.prog Try.lays156_ren := {
 sizeBuilder := by kernel_rfl
 liesBuilder := by kernel_rfl
 t5 := Try.underlying5
 a5 := Try.isAgg5
 z5 := Try.sizeOf5
 v5 := Try.zeroValue5
 infoByte := by kernel_rfl
 cellsByte := by kernel_rfl
 sizeByte := by kernel_rfl
 neB5 := by decide }
open Go.RowKit in
theorem Try.strings_Join (bk o c : Nat) (xs : List ByteArray) (sep : ByteArray) (w : World) (hcells : ∀ (j : Nat) x, xs[j]? = some x → w.cell? ⟨bk, o + j, none⟩ = some (.string x)) (hbk : bk < w.heap.size) (hN : xs.length ≤ 140737488355328) (hcap : xs.length ≤ c) (hlen : (Lib.join (xs.map (·.data.toList)) sep.data.toList).length ≤ 140737488355328) :
  Calls Try.prog 66 #[.slice (some ⟨bk, o, none⟩) xs.length c, .string sep] w fun e w' => e = .returned (.string ⟨(Lib.join (xs.map (·.data.toList)) sep.data.toList).toArray⟩) ∧ Below w.heap.size w w' := Any.strings_Join Try.lays156 Try.Builder_Extra_156 bk o c xs sep w hcells hbk hN hcap hlen
end Go.Proofs
