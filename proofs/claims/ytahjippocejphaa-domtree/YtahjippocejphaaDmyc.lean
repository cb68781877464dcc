/-
  plnlaw5.DomTree answers true.
-/
import Derived.Test.YtahjippocejphaaDmy
import Derived.Test.YtahjippocejphaaDmyb
namespace Go.Proofs.Ytahjippocejphaa.Dm
open Go.RowKit View Rd Copy Num Ty Srt Go.Proofs.Ytahjippocejphaa.Flo Go.Proofs.Ytahjippocejphaa.Lt

theorem domTree_any (F : FV) (a b c : Int) (w : World) (hF : In w F) (hj : Jng F) :
    Calls Try.prog 7 #[F.val, .int .i64 a, .int .i64 b, .int .i64 c] w fun e w' => e = .returned (.bool true) ∧ Below w.heap.size w w' := by
  by_cases h : red a F.blk.n = red b F.blk.n
  · exact domTree_eq F a b c w hF hj h
  · exact domTree_ne F a b c w hF hj h

end Go.Proofs.Ytahjippocejphaa.Dm
