/- '[]byte("..")' of a constant. -/
import Derived.Test.YtpegmingmcedmaaRows
import Derived.Test.YtpegmingmcedmaaBase
import Derived.Lib.SlBytesConst
namespace Go.Proofs.Ytpegmingmcedmaa
open Go.RowKit

theorem conv_lit (w : World) (C : Array Value) (g n c : Nat) (hg : g = w.heap.size) :
    (convert 22 22 (.slice (some ⟨g, 0, none⟩) n c)).run Try.prog (w.alloc (.cells C 5)) = .ok (.slice (some ⟨g, 0, none⟩) n c) (w.alloc (.cells C 5 (C.size, C.size + 1))) := by
  subst hg
  exact Lib.run_convert_bytes_const (P := Try.prog) w 22 5 C n c Try.underlying22 Try.underlying5
end Go.Proofs.Ytpegmingmcedmaa
