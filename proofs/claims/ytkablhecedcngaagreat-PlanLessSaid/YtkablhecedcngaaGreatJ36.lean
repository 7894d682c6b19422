/- NamesJ -/
import Derived.Test.YtkablhecedcngaaGreatJ33
import Derived.Lib.Join
namespace Go.Proofs.YtkablhecedcngaaGreat
set_option maxRecDepth 100000
set_option maxHeartbeats 8000000
open Go.RowKit
variable {w:World}{A:Option Addr}{c n:Nat}{L:List Txt}
theorem Yq8 (h:Zn w w.heap.size A n c L) (hm:Wu L) :
  Calls Tryz.prog 99 #[.slice A n c] w fun e w'=>e=.returned (.bool true)∧Below w.heap.size w w':=by
 have:=Ow h
 rwa [decide_eq_true hm] at this
theorem Ysr (h:Zn w w.heap.size A n c L) (hm:¬ Wu L) :
  Calls Tryz.prog 99 #[.slice A n c] w fun e w'=>e=.returned (.bool false)∧Below w.heap.size w w':=by
 have:=Ow h
 rwa [decide_eq_false hm] at this
def Yr3 (w:World) (p:Option (List Txt)) (e:Ending) (w' : World):Prop :=
 (match p with
  | some p=>∃ B j d,e=.returned (.tuple #[.slice B j d,.int .i64 0])∧Zn w' w'.heap.size B j d p∧∀ a,B=some a→w.heap.size≤a.block
  | none=>e=.returned (.tuple #[.slice none 0 0,.int .i64 10]))∧Below w.heap.size w w'
theorem Yr3.yes {w':World}{p:List Txt}{e:Ending} (h:Yr3 w (some p) e w'):∃ B j d,e=.returned (.tuple #[.slice B j d,.int .i64 0])∧Zn w' w'.heap.size B j d p∧Below w.heap.size w w':=by
 obtain ⟨⟨B,j,d,h1,h2,_⟩,h3⟩:=h;exact ⟨B,j,d,h1,h2,h3⟩
/-! ### Text -/
end Go.Proofs.YtkablhecedcngaaGreat
