/- For all texts s and t that hold together at most what the row's bound says: tributarylaw.Framed(s, t) returns true, and its arguments read behind the call as ahead of it. (Condition: the bulk of the arguments, as the second statement has it.) -/
import Derived.Test.YtpibpdpedjinhaaPFramed
import Derived.Test.YtpibpdpedjinhaaFFrames
namespace Go.Proofs.Ytpibpdpedjinhaa

theorem framed_holds : Rows.FramedUptoSaid := framed.proved Fr.frames_said
end Go.Proofs.Ytpibpdpedjinhaa
