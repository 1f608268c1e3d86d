import Derived.Test.YtlonjggfnleolaaGreatDoorRefAsk0
namespace Go.Proofs.YtlonjggfnleolaaGreatDoor
open Go.RowKit
set_option linter.unusedVariables false
set_option linter.unusedSimpArgs false
theorem ba_ext {a b:ByteArray}(h:a.data.toList=b.data.toList):a=b:=by
 cases a;cases b;simp at h;simp[h]
theorem textB_size {s:ByteArray}(h:s.size≤40):(textB s).size≤45:=by
 have:=sizedB_size h;have e:(ByteArray.mk #[36]).size=1:=rfl;unfold textB;rw[ByteArray.size_append];omega
end Go.Proofs.YtlonjggfnleolaaGreatDoor
