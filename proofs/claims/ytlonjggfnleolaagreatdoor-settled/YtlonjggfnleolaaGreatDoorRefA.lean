import Derived.Test.YtlonjggfnleolaaGreatDoorKind
import Derived.Test.YtlonjggfnleolaaGreatDoorEdge
namespace Go.Proofs.YtlonjggfnleolaaGreatDoor
open Go.RowKit
set_option linter.unusedVariables false
variable {s:ByteArray}{k:Nat}
theorem getD_str (h:k<s.size):s.data.toList.getD k 0=s[k]:=by
 rw[List.getD,List.getElem?_eq_getElem (by simpa using h)];rfl
theorem byAt_str (h:k<s.size):byAt s.data.toList k=s[k].toNat:=by
 show(s.data.toList.getD k 0).toNat=_;rw[getD_str h]
theorem u8_ne {b c:UInt8}(h:¬b=c):((b.toNat:Int)==(c.toNat:Int))=false:=by
 rw[beq_eq_false_iff_ne];intro e;apply h;apply UInt8.toNat_inj.1;omega
theorem ib_at (h:k<s.size)(h10:s[k]=10)(hn:¬0≤Go.Lib.indexByte (s.data.toList.take k) 10):Go.Lib.indexByte s.data.toList 10=(k:Int):=by
 have hk:k<s.data.toList.length:=by simpa using h
 have e:s.data.toList=s.data.toList.take k++10::s.data.toList.drop (k+1):=by
  have h1:s.data.toList.drop k=10::s.data.toList.drop (k+1):=by
   rw[List.drop_eq_getElem_cons hk];congr 1
  rw[←h1,List.take_append_drop]
 have hl:(s.data.toList.take k).length=k:=by rw[List.length_take];omega
 rw[e,ib_neg_app _ _ _ hn,hl];have e0:Go.Lib.indexByte (10::s.data.toList.drop (k+1)) 10=0:=by rw[ib_cons];simp
 rw[e0];simp
theorem ib_no (h:k<s.size)(h10:¬s[k]=10)(hn:¬0≤Go.Lib.indexByte (s.data.toList.take k) 10):¬0≤Go.Lib.indexByte (s.data.toList.take (k+1)) 10:=by
 rw[take_snoc s k h,ib_neg_app _ _ _ hn];have e0:Go.Lib.indexByte [s[k]] 10= -1:=by rw[ib_cons,ib_nil];simp[h10]
 rw[e0];simp
end Go.Proofs.YtlonjggfnleolaaGreatDoor
