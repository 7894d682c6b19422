/- NamesJ -/
import Derived.Test.YtmepdkdeanbbaaaGreatJ34
import Derived.Lib.Join
namespace Go.Proofs.YtmepdkdeanbbaaaGreat
set_option maxRecDepth 100000
set_option maxHeartbeats 8000000
open Go.RowKit
variable {w:World}{A:Option Addr}{c n:Nat}{L:List Txt}
theorem Yur(h:Zx w w.heap.size A n c L)(hm:Un L):
  Calls Tryz.prog 159 #[.slice A n c] w λe w'=>e=.returned (.bool true)/\Below w.heap.size w w':=by
 have:=E9 h
 rwa [decide_eq_true hm]at this
theorem Yv0(h:Zx w w.heap.size A n c L)(hm:¬Un L):
  Calls Tryz.prog 159 #[.slice A n c] w λe w'=>e=.returned (.bool false)/\Below w.heap.size w w':=by
 have:=E9 h
 rwa [decide_eq_false hm]at this
def Yu7(w:World)(p:Option (List Txt))(e:Ending)(w':World):Prop:=
 (match p with
  |some p=>∃B j d,e=.returned (.tuple #[.slice B j d,.int .i64 0])/\Zx w' w'.heap.size B j d p/\∀a,B=some a->w.heap.size<=a.block
  |none=>e=.returned (.tuple #[.slice none 0 0,.int .i64 10]))/\Below w.heap.size w w'
theorem Yu7.no{w':World}{e:Ending}(h:Yu7 w none e w'):e=.returned (.tuple #[.slice none 0 0,.int .i64 10])/\Below w.heap.size w w':=h
/-! ### Text -/
end Go.Proofs.YtmepdkdeanbbaaaGreat
