import Derived.Test.YtlonjggfnleolaaGreatDoorRows
import Derived.WalkKit
import Derived.WalkSpells
import Derived.WalkLawsBesides
import Derived.OpenShut
import Derived.Deep.QuietTactic
import Derived.BigQuiet
import Derived.Laws.BitsAllLaws
import Derived.RegionTactic
import Derived.Deep.RegionWith
import Derived.BigRegion
import Derived.Laws.BytesArg
import Derived.Shelf.Strings.Builder1
import Derived.Shelf.Strings.Builder2
import Derived.Shelf.Strings.OnBuilder
import Derived.Test.YtlonjggfnleolaaGreatDoorProg
import Derived.Deep.RegionHeld3
import Derived.Deep.Cut
set_option linter.unusedVariables false
set_option maxHeartbeats 4000000
set_option maxRecDepth 100000
namespace Go.Proofs.YtlonjggfnleolaaGreatDoor
open Go.RowKit Go.Proofs.Tryz
abbrev PC:=@Nat.le_refl
abbrev PK:=@List.map_map
abbrev PO:=@Array.getElem?_append_left
abbrev PQ:=@Bool.false_and
abbrev PV:=@List.getElem?_inj
abbrev PW:=@List.map_set
abbrev PY:=@List.length_take_le'
abbrev PZ:=@Nat.mul_one
abbrev Pw:=@List.getElem?_take
abbrev Qa:=@trivial
abbrev Qd:=@List.not_mem_nil
abbrev cC:=@Go.RowKit.Below.heap_alloc
abbrev cD:=@if_neg
abbrev cE:=@Go.bodyPost_ret
abbrev cF:=@Go.World.size_alloc
abbrev cG:=@Nat.zero_le
abbrev cH:=@Nat.lt_of_lt_of_le
abbrev cI:=@List.length_append
abbrev cJ:=@List.mem_cons_of_mem
abbrev cK:=@List.getElem?_set_self
abbrev cL:=@List.getElem?_map
abbrev cN:=@if_pos
abbrev cO:=@Bool.and_eq_true
abbrev cP:=@Nat.le_trans
abbrev cQ:=@List.mem_cons
abbrev cR:=@ByteArray.size_append
abbrev cS:=@Go.World.cell?_of_block
abbrev cT:=@List.setIfInBounds_toArray
abbrev cV:=@Go.below_drewN
abbrev cW:=@List.getElem?_append_left
abbrev cX:=@decide_eq_true_eq
abbrev cd:=@And.intro
abbrev cp:=@List.getElem?_eq_getElem
abbrev cq:=@List.getElem?_eq_some_iff
abbrev cr:=@List.mem_append
abbrev ct:=@Go.RowKit.Below.refl
abbrev cu:=@List.mem_of_getElem?
abbrev cz:=@Go.RowKit.Below.heap_setCell
abbrev dA:=@List.mem_map
abbrev dD:=@List.getElem?_set
abbrev dF:=@List.map_append
abbrev dG:=@List.mem_iff_getElem
abbrev dJ:=@Go.RowKit.Below.setCell
abbrev dK:=@Array.getElem?_setIfInBounds_ne
abbrev dU:=@Go.RowKit.Below.alloc
abbrev dV:=@Go.RowKit.Below.drew
abbrev dW:=@beq_eq_false_iff_ne
abbrev dX:=@Option.map_eq_some_iff
abbrev dZ:=@Array.getElem?_eq_getElem
abbrev da:=@List.mem_or_eq_of_mem_set
abbrev dc:=@List.length_cons
abbrev de:=@List.getElem?_set_ne
abbrev dg:=@List.getElem?_append_right
abbrev dj:=@List.length_set
abbrev dk:=@List.set_cons_zero
abbrev dp:=@List.length_map
abbrev dr:=@List.set_cons_succ
abbrev dt:=@List.take_of_length_le
abbrev dv:=@Go.World.ownsRow_nil
abbrev dw:=@List.length_eq_zero_iff
abbrev dx:=@List.getElem?_take_of_lt
abbrev eA:=@Go.World.ownsRow.alloc
abbrev eB:=@Nat.zero_add
abbrev eG:=@decide_eq_false_iff_not
abbrev eM:=@Go.wrap_small
abbrev eO:=@Go.Proofs.Tryz.underlying34
abbrev eQ:=@List.getElem?_toArray
abbrev eU:=@Array.getElem?_setIfInBounds_self_of_lt
abbrev eV:=@List.take_add_one
abbrev eX:=@UInt8.toNat_lt
abbrev et:=@List.getElem?_zip_eq_some
abbrev eu:=@List.map_cons
abbrev ey:=@Go.World.block_lt_of_cell?
abbrev fA:=@Bool.or_eq_true
abbrev fH:=@List.mem_of_mem_take
abbrev fI:=@List.nil_append
abbrev fJ:=@List.nodup_append
abbrev fR:=@List.length_drop
abbrev fS:=@List.ext_getElem?
abbrev fX:=@Bool.false_eq_true
abbrev fg:=@Go.Proofs.Tryz.underlying80
abbrev fh:=@List.length_take
abbrev fi:=@Go.Proofs.Tryz.underlying9
abbrev fk:=@List.length_nil
abbrev fq:=@Go.World.cell?_setCell_same'
abbrev fu:=@List.length_singleton
abbrev fx:=@List.append_assoc
abbrev gK:=@Bool.not_false
abbrev gN:=@List.filter_append
abbrev gP:=@Option.map_some
abbrev gQ:=@Option.some.inj
abbrev gT:=@ByteArray.size_extract
abbrev gX:=@List.drop_eq_getElem_cons
abbrev ga:=@List.mem_iff_getElem?
abbrev gd:=@List.take_length
abbrev gi:=@Prod.mk.injEq
abbrev gl:=@List.mem_singleton
abbrev gm:=@Go.World.frozen?_of_block
abbrev gw:=@List.of_mem_zip
abbrev iB:=@List.mem_flatMap
abbrev iI:=@List.map_nil
abbrev iJ:=@Option.some.injEq
abbrev iN:=@List.drop_succ_cons
abbrev iS:=@Classical.byContradiction
abbrev iY:=@Go.run_convert_bytes_arg
abbrev ig:=@Bool.and_eq_false_iff
abbrev ij:=@List.take_append_drop
abbrev il:=@List.append_nil
abbrev im:=@Nat.add_zero
abbrev iy:=@List.getElem?_drop
abbrev jC:=@Go.ByteArray.toList_eq
abbrev jD:=@List.flatMap_append
abbrev jG:=@if_false
abbrev jH:=@Go.Proofs.Tryz.func123
abbrev jI:=@Bool.false_or
abbrev jJ:=@Go.Proofs.Tryz.ntmps144
abbrev jN:=@List.all_eq_true
abbrev jQ:=@Array.getElem?_eq_some_iff
abbrev jR:=@List.intersperse_singleton
abbrev jS:=@List.mem_cons_self
abbrev jT:=@List.take_zero
abbrev jU:=@Go.World.size_setCell
abbrev ja:=@List.cons_append
abbrev jb:=@List.countP_cons
abbrev jf:=@Bool.true_and
abbrev jg:=@Go.Proofs.Tryz.ntmps123
abbrev jl:=@Go.Lib.byteCells_length
abbrev jm:=@List.eq_nil_of_length_eq_zero
abbrev jn:=@List.take_append_of_le_length
abbrev js:=@Int.eq_ofNat_of_zero_le
abbrev ju:=@Go.Proofs.Tryz.underlying89
abbrev jw:=@Go.Proofs.Tryz.underlying95
abbrev kE:=@List.countP_eq_zero
abbrev kF:=@List.map_congr_left
abbrev kH:=@Bool.and_false
abbrev kI:=@List.getElem?_cons_succ
abbrev kJ:=@List.getElem?_cons_zero
abbrev kK:=@List.map_toArray
abbrev kL:=@List.mem_flatten
abbrev kM:=@Nat.add_sub_cancel_left
abbrev kP:=@Go.Proofs.Tryz.underlying5
abbrev kg:=@List.all_append
abbrev ki:=@List.size_toArray
abbrev kj:=@Go.Result.andThen_ok
abbrev km:=@Go.Proofs.Tryz.func144
abbrev kz:=@List.eq_of_mem_replicate
abbrev lD:=@Go.Proofs.Tryz.ntmps171
abbrev lG:=@List.getElem?_eq_none
abbrev lH:=@List.length_replicate
abbrev lM:=@Go.DataW.trod_struct
abbrev lP:=@List.flatten_cons
abbrev lQ:=@Go.Proofs.Tryz.underlying28
abbrev ld:=@Go.Proofs.Tryz.ntmps21
abbrev lf:=@Go.Proofs.Tryz.ntmps87
abbrev lp:=@Go.Result.ok.injEq
abbrev lz:=@Bool.not_true
abbrev mD:=@Go.wpList_append_own_at
abbrev mE:=@Bool.not_eq_true
abbrev mF:=@Go.Proofs.Tryz.func171
abbrev mG:=@Go.Proofs.Tryz.ntmps71
abbrev mS:=@List.getD_cons_zero
abbrev mV:=@Bool.and_true
abbrev mZ:=@Go.Proofs.Tryz.ntmps104
abbrev me:=@Bool.or_eq_false_iff
abbrev mf:=@List.intersperse_cons_cons
abbrev mg:=@Nat.pow_le_pow_right
abbrev mm:=@Go.Proofs.Tryz.func21
abbrev mo:=@Go.Proofs.Tryz.func87
abbrev nE:=@Nat.le_succ
abbrev nG:=@Go.Proofs.Tryz.func71
abbrev nY:=@List.drop_eq_nil_of_le
abbrev nZ:=@List.flatMap_cons
abbrev ns:=@Go.Lib.strCells_eq
abbrev nt:=@List.foldl_cons
abbrev nv:=@UInt8.toNat_inj
abbrev nw:=@Nat.eq_zero_or_pos
abbrev oA:=@Array.getElem?_modify
abbrev oB:=@List.Perm.append_left
abbrev oC:=@List.countP_le_length
abbrev oH:=@Array.eq_empty_of_size_eq_zero
abbrev oI:=@List.flatten_nil
abbrev oR:=@Go.wpList_make_full
abbrev oT:=@Go.Proofs.Tryz.ntmps244
abbrev oZ:=@List.drop_append_of_le_length
abbrev oa:=@Or.inl
abbrev od:=@Go.Sem.run_bind
abbrev oe:=@Go.Sem.run_pure
abbrev oh:=@Go.Proofs.Tryz.func104
abbrev oi:=@Go.Proofs.Tryz.ntmps48
abbrev oz:=@List.replicate_append_replicate
abbrev pG:=@List.getElem?_range
abbrev pH:=@List.length_pos_iff
abbrev pI:=@List.replicate_succ
abbrev pJ:=@Array.set!_eq_setIfInBounds
abbrev pK:=@Nat.lt_trans
abbrev pL:=@Go.Proofs.Tryz.func244
abbrev pM:=@Go.Proofs.Tryz.ntmps40
abbrev pS:=@if_true
abbrev pX:=@Go.results_none
abbrev pb:=@Go.Proofs.Tryz.func48
abbrev pr:=@Go.Frame.finish_at
abbrev pw:=@List.cons.injEq
abbrev px:=@List.mem_filter
abbrev py:=@List.nodup_cons
abbrev pz:=@List.zip_append
abbrev qC:=@Go.strOfNums_size
abbrev qE:=@Go.DataW.trod_string
abbrev qF:=@Int.le_refl
abbrev qH:=@Go.Proofs.Tryz.func40
abbrev qU:=@List.any_cons
abbrev qf:=@List.countP_append
abbrev qg:=@List.drop_drop
abbrev rF:=@Bool.or_true
abbrev rH:=@List.set_set
abbrev rI:=@Nat.sub_self
abbrev sj:=@Go.wpList_plain
variable {a b n:Int}
theorem cU {w:World}{x:Obj}:Below w.heap.size w (w.alloc x):=(ct _ _).alloc (PC _) _
theorem pY {k:IntKind}(h:a=b):Ending.returned (.int k a)= .returned (.int k b):=by rw[h]
theorem cY {a b:Bool}(h:a=b):Ending.returned (.bool a)= .returned (.bool b):=by rw[h]
theorem ir {a b:ByteArray}(h:a=b):Ending.returned (.string a)= .returned (.string b):=by rw[h]
def eF (a n b:Int):Bool:=decide (a<=n)&&decide (n<=b)
theorem nR (c:a<=n)(d:n<=b):eF a n b=true:=by simp[eF,c,d]
theorem nQ (c:¬(a<=n/\n<=b)):eF a n b=false:=by
 simp only[eF,ig,eG];omega
theorem kC (n a b:Int)(w:World):Calls prog 77 #[.int .i64 n,.int .i64 a,.int .i64 b] w fun e w'=>e= .returned (.bool (eF a n b))/\w'=w:=by
 by_cases c:a<=n
 .by_cases d:n<=b
  .go_wp2;go_ret;exact⟨cY (nR c d).symm,rfl⟩
  .go_wp2;go_ret;exact⟨cY (by rw[nQ (by omega)]),rfl⟩
 .go_wp2;go_ret;exact⟨cY (by rw[nQ (by omega)]),rfl⟩
def rm (b:UInt8):Bool:=decide (97<=(b.toNat:Int))&&decide ((b.toNat:Int)<=122)
def PH (b:UInt8):Bool:=decide (48<=(b.toNat:Int))&&decide ((b.toNat:Int)<=57)
def CU (b:UInt8):Bool:=rm b || PH b
section
variable (b:UInt8)(w:World)
theorem rU:Calls prog 80 #[.int .u8 b.toNat] w fun e w'=>e= .returned (.bool (rm b))/\w'=w:=by
 by_cases c:97<=(b.toNat:Int)
 .go_wp2;go_ret;exact⟨by simp[rm,c],rfl⟩
 .have a:decide (97<=(b.toNat:Int))=false:=by grind
  go_wp2;go_ret;exact⟨cY (by simp only[rm,a,PQ]),rfl⟩
theorem GI:Calls prog 81 #[.int .u8 b.toNat] w fun e w'=>e= .returned (.bool (PH b))/\w'=w:=by
 by_cases c:48<=(b.toNat:Int)
 .go_wp2;go_ret;exact⟨by simp[PH,c],rfl⟩
 .have a:decide (48<=(b.toNat:Int))=false:=by grind
  go_wp2;go_ret;exact⟨cY (by simp only[PH,a,PQ]),rfl⟩
theorem CR:Calls prog 79 #[.int .u8 b.toNat] w fun e w'=>e= .returned (.bool (CU b))/\w'=w:=by
 by_cases c:rm b=true
 .go_enter func79,ntmps79;go_wp2_with (first|(refine(rU _ _).mono ?_;rintro e w' ⟨rfl,rfl⟩))
  go_ret;exact⟨cY (by simp only[CU,c,Bool.true_or]),rfl⟩
 .have a:rm b=false:=by grind
  go_enter func79,ntmps79;go_wp2_with (first|(refine(rU _ _).mono ?_;rintro e w' ⟨rfl,rfl⟩)|(refine(GI _ _).mono ?_;rintro e w' ⟨rfl,rfl⟩))
  go_ret;exact⟨cY (by simp only[CU,a,jI]),rfl⟩
end
theorem kh (s:ByteArray)(k:Nat)(h:k<s.size):s.data.toList.take (k+1)=s.data.toList.take k++[s[k]]:=by
 rw[List.take_succ_eq_append_getElem (by simp_all)];rfl
def Ab (s:ByteArray):Bool:=s.data.toList.all CU
theorem vR {s:ByteArray}{k:Nat}{P:UInt8->Bool}(h:k<s.size)(a:P s[k]=false):s.data.toList.all P=false:=by
 rw[List.all_eq_false];exact⟨s[k],by simp[ByteArray.getElem_eq_getElem_data],by simp[a]⟩
theorem JL (s:ByteArray)(w:World)(f:s.size<=maxLen):Calls prog 78 #[.string s,.func (.func 79) #[] #[]] w fun e w'=>e= .returned (.bool (Ab s))/\w'=w:=by
 unfold maxLen at f;go_wp2;go_loop [8] (fun i=>∃k:Nat,k<=s.size/\i= .int .i64 k/\(s.data.toList.take k).all CU=true) (fun i=>s.size-(intOf i).toNat)
 case atStart=>exact⟨0,cG _,rfl,by simp⟩
 case round=>
  obtain⟨k,g,rfl,a⟩:=hrel;have c:Hid ((s.data.toList.take k).all CU=true):=a;clear a;by_cases b:k<s.size
  .cases d:CU s[k]with
   |true=>
    go_wp2_with (go_at_call 79;refine(CR _ _).mono ?_;rintro e w' ⟨rfl,rfl⟩)
    go_round
    case rel=>exact⟨k+1,by omega,by go_num,by rw[kh s k b];simp[c.out,d]⟩
    case measure=>simp[intOf];omega
   |false=>
    go_wp2_with (go_at_call 79;refine(CR _ _).mono ?_;rintro e w' ⟨rfl,rfl⟩)
    go_ret;exact⟨cY (vR b d).symm,rfl⟩
  .go_wp2;go_ret;exact⟨cY (by rw[Ab,<-c.out,dt (by simp;omega)]),rfl⟩
def iX (s:ByteArray):Bool:=eF 1 s.size 8&&Ab s
theorem pT (s:ByteArray)(w:World)(c:s.size<=maxLen):Calls prog 50 #[.string s] w fun e w'=>e= .returned (.bool (iX s))/\w'=w:=by
 have a:=c;cases b:eF 1 s.size 8 with
 |true=>
  go_enter func50,ntmps50;go_wp2_with (first|(refine(kC _ _ _ _).mono ?_;rintro e w' ⟨rfl,rfl⟩)|(refine(JL _ _ a).mono ?_;rintro e w' ⟨rfl,rfl⟩))
  go_ret;exact⟨cY (by simp only[iX,b,jf]),rfl⟩
 |false=>
  go_enter func50,ntmps50;go_wp2_with (first|(refine(kC _ _ _ _).mono ?_;rintro e w' ⟨rfl,rfl⟩))
  go_ret;exact⟨cY (by simp only[iX,b,PQ]),rfl⟩
def qM (s p:Int):Bool:=eF 1 s 4&&eF 1 p 16
theorem vG (s p:Int)(w:World):Calls prog 49 #[.int .i64 s,.int .i64 p] w fun e w'=>e= .returned (.bool (qM s p))/\w'=w:=by
 cases a:eF 1 s 4 with
 |true=>
  go_enter func49,ntmps49;go_wp2_with (refine(kC _ _ _ _).mono ?_;rintro e w' ⟨rfl,rfl⟩)
  go_ret;exact⟨cY (by simp only[qM,a,jf]),rfl⟩
 |false=>
  go_enter func49,ntmps49;go_wp2_with (refine(kC _ _ _ _).mono ?_;rintro e w' ⟨rfl,rfl⟩)
  go_ret;exact⟨cY (by simp only[qM,a,PQ]),rfl⟩
def wQ (h:Int)(b:UInt8):Int:=bits BinOp.xor IntKind.u32 h ((b.toNat:Int) % 4294967296)*16777619 % 4294967296
def qo (l:List UInt8):Int:=l.foldl wQ 2166136261
def num (l:List UInt8):Int:=qo l*16777619 % 4294967296
theorem yG (l:List UInt8):0<=num l/\num l<4294967296:=by unfold num;omega
theorem yH (s:ByteArray)(w:World)(b:s.size<=maxLen):Calls prog 82 #[.string s] w fun e w'=>e= .returned (.int .u32 (num s.data.toList))/\w'=w:=by
 unfold maxLen at b;go_wp2;go_loop [3,7] (fun h i=>∃k:Nat,k<=s.size/\i= .int .i64 k/\h= .int .u32 (qo (s.data.toList.take k))) (fun _ i=>s.size-(intOf i).toNat)
 case atStart=>exact⟨0,cG _,rfl,rfl⟩
 case round=>
  obtain⟨k,c,rfl,rfl⟩:=hrel;by_cases a:k<s.size
  .go_wp2;go_round
   case rel=>exact⟨k+1,by omega,by go_num,by rw[kh s k a];simp[qo,wQ]⟩
   case measure=>simp[intOf];omega
  .go_wp2;go_ret;exact⟨pY (by rw[dt (by simp;omega)];rfl),rfl⟩
def gh (n:Nat):ByteArray:=if n<10 then⟨#[UInt8.ofNat (48+n)]⟩else⟨#[UInt8.ofNat (48+n / 10),UInt8.ofNat (48+n % 10)]⟩
def Np:ByteArray:=⟨#[48,49,50,51,52,53,54,55,56,57,97,98,99,100,101,102,103,104,105,106,107,108,109,110,111,112,113,114,115,116,117,118,119,120,121,122]⟩
def Ge:ByteArray:=⟨#[48,48,48,49,48,50,48,51,48,52,48,53,48,54,48,55,48,56,48,57,49,48,49,49,49,50,49,51,49,52,49,53,49,54,49,55,49,56,49,57,50,48,50,49,50,50,50,51,50,52,50,53,50,54,50,55,50,56,50,57,51,48,51,49,51,50,51,51,51,52,51,53,51,54,51,55,51,56,51,57,52,48,52,49,52,50,52,51,52,52,52,53,52,54,52,55,52,56,52,57,53,48,53,49,53,50,53,51,53,52,53,53,53,54,53,55,53,56,53,57,54,48,54,49,54,50,54,51,54,52,54,53,54,54,54,55,54,56,54,57,55,48,55,49,55,50,55,51,55,52,55,53,55,54,55,55,55,56,55,57,56,48,56,49,56,50,56,51,56,52,56,53,56,54,56,55,56,56,56,57,57,48,57,49,57,50,57,51,57,52,57,53,57,54,57,55,57,56,57,57]⟩
theorem Ly:∀n:Nat,n<10->Np.extract n (n+1)=gh n:=by decide+kernel
theorem Fe:∀n:Nat,n<100->¬n<10->Ge.extract (n*2) (n*2+2)=gh n:=by decide+kernel
section
variable (n:Nat)
theorem IQ (h:¬n<10)(a:n<100):Ge.extract (n*2) (n*2+2)=gh n:=Fe n a h
theorem IP (w:World)(a:n<100):Calls prog 176 #[.int .i64 n] w fun e w'=>e= .returned (.string (gh n))/\w'=w:=by
 by_cases h:n<10
 .go_wp2;go_ret;refine⟨ir ?_,rfl⟩;exact Ly n h
 .go_wp2;go_ret;refine⟨ir ?_,rfl⟩;exact IQ n h a
theorem zu (w:World)(a:n<100):Calls prog 168 #[.int .i64 n,.int .i64 10] w fun e w'=>e= .returned (.string (gh n))/\w'=w:=by
 go_enter func168,ntmps168;go_wp2_with (refine(IP _ _ a).mono ?_;rintro e w' ⟨rfl,rfl⟩)
 go_ret;exact⟨rfl,rfl⟩
theorem Rr (w:World)(a:n<100):Calls prog 155 #[.int .i64 n] w fun e w'=>e= .returned (.string (gh n))/\w'=w:=by
 go_enter func155,ntmps155;go_wp2_with (refine(zu _ _ a).mono ?_;rintro e w' ⟨rfl,rfl⟩)
 go_ret;exact⟨rfl,rfl⟩
theorem sX (w:World)(a:n<100):Calls prog 122 #[.int .i64 n] w fun e w'=>e= .returned (.string (gh n))/\w'=w:=by
 go_enter func122,ntmps122;go_wp2_with (refine(Rr _ _ a).mono ?_;rintro e w' ⟨rfl,rfl⟩)
 go_ret;exact⟨rfl,rfl⟩
theorem fT:(gh n).size<=2:=by unfold gh;split<;>simp[ByteArray.size]
end
def pt (s p:Nat):ByteArray:=gh s++⟨#[58]⟩++gh p
theorem Rh (s p:Nat):(pt s p).size<=5:=by
 have a:=fT s;have b:=fT p;have c:(ByteArray.mk #[58]).size=1:=rfl;unfold pt;rw[cR,cR];omega
def sJ (a:Int)(s p:Nat):Int:=(num (pt s p).data.toList-a) % 4294967296
theorem xP (a:Int)(s p:Nat)(w:World)(f:0<=a/\a<4294967296)(b:s<100)(c:p<100):Calls prog 83 #[.int .u32 a,.int .i64 s,.int .i64 p] w fun e w'=>e= .returned (.int .u32 (sJ a s p))/\w'=w:=by
 have g:=fT s;have h:=fT p;have i:=Rh s p;have d:(pt s p).size<=maxLen:=by unfold maxLen;omega
 go_enter func83,ntmps83;go_wp2_with fail
 refine(sX _ _ b).mono ?_;rintro e w' ⟨rfl,rfl⟩;go_wp2_with fail
 refine(sX _ _ c).mono ?_;rintro e w' ⟨rfl,rfl⟩;go_wp2_with fail
 refine(yH (pt s p) _ d).mono ?_;rintro e w' ⟨rfl,rfl⟩;go_wp2;go_ret;exact⟨rfl,rfl⟩
def sA (a:Int)(s p:Nat)(x:Nat×Int):Nat×Int:=if sJ a s p<x.2 then(s,sJ a s p)else x
def mA (a:Int)(s:Nat)(x:Nat×Int):Nat->Nat×Int
 |0=>x
 |k+1=>sA a s k (mA a s x k)
def kR (a:Int)(p:Nat):Nat->Nat×Int
 |0=>(0,sJ a 0 0)
 |k+1=>mA a k (kR a p k) p
theorem KV (a:Int)(s p:Nat)(x:Nat×Int):(sA a s p x).1=x.1\/(sA a s p x).1=s:=by
 unfold sA;split
 .exact .inr rfl
 .exact .inl rfl
theorem Rq (a:Int)(s:Nat)(x:Nat×Int)(k:Nat):(mA a s x k).1=x.1\/(mA a s x k).1=s:=by
 induction k with
 |zero=>exact .inl rfl
 |succ k b=>
  have:=KV a s k (mA a s x k);simp only[mA]
  omega
theorem wZ (a:Int)(p k:Nat):(kR a p (k+1)).1=(kR a p k).1\/(kR a p (k+1)).1=k:=Rq a k _ p
theorem Ie (a:Int)(p k:Nat):(kR a p (k+1)).1<=k:=by
 induction k with
 |zero=>have:=wZ a p 0;have h:(kR a p 0).1=0:=rfl;omega
 |succ k b=>have:=wZ a p (k+1);omega
theorem yY (s p:Nat)(a:ByteArray)(w:World)(C:s<=4)(D:p<=16)(q:a.size<=maxLen):Calls prog 51 #[.int .i64 s,.int .i64 p,.string a] w fun e w'=>e= .returned (.int .i64 (kR (num a.data.toList) p s).1)/\w'=w:=by
 have g:=yG a.data.toList;go_enter func51,ntmps51;go_wp2_with fail
 refine(yH a _ q).mono ?_;rintro e w' ⟨rfl,rfl⟩;generalize c:num a.data.toList=b at*;have r:Hid (num a.data.toList=b):=c;clear c;go_wp2_with fail
 refine(xP b 0 0 _ g (by omega) (by omega)).mono ?_;rintro e w' ⟨rfl,rfl⟩;go_wp2;go_loop [8,9,18] (fun o l i=>∃k:Nat,k<=s/\i= .int .i64 k/\o= .int .i64 (kR b p k).1/\l= .int .u32 (kR b p k).2) (fun _ _ i=>s-(intOf i).toNat)
 case atStart=>exact⟨0,cG _,rfl,rfl,rfl⟩
 case round=>
  obtain⟨k,t,rfl,rfl,rfl⟩:=hrel;by_cases u:k<s
  .generalize v:kR b p k=x;have n:Hid (kR b p k=x):=v;go_wp2;go_loop [8,9,22] (fun o l i=>∃j:Nat,j<=p/\i= .int .i64 j/\o= .int .i64 (mA b k x j).1/\l= .int .u32 (mA b k x j).2) (fun _ _ i=>p-(intOf i).toNat)
   case atStart=>exact⟨0,cG _,rfl,rfl,rfl⟩
   case round=>
    obtain⟨j,z,rfl,rfl,rfl⟩:=hrel;by_cases A:j<p
    .generalize B:mA b k x j=y;have d:Hid (mA b k x j=y):=B;by_cases f:sJ b k j<y.2
     .go_wp2_with (refine(xP b k j _ g (by omega) (by omega)).mono ?_;rintro e w' ⟨rfl,rfl⟩)
      go_round
      case rel=>exact⟨j+1,by omega,by go_num,by simp[mA,d.out,sA,f],by simp[mA,d.out,sA,f]⟩
      case measure=>simp[intOf];omega
     .go_wp2_with (refine(xP b k j _ g (by omega) (by omega)).mono ?_;rintro e w' ⟨rfl,rfl⟩)
      go_round
      case rel=>exact⟨j+1,by omega,by go_num,by simp[mA,d.out,sA,Int.not_lt.2 f],by simp[mA,d.out,sA,Int.not_lt.2 f]⟩
      case measure=>simp[intOf];omega
    .have h:j=p:=by omega
     subst h;go_wp2;go_round
     case rel=>exact⟨k+1,by omega,by go_num,by simp[kR,n.out],by simp[kR,n.out]⟩
     case measure=>simp[intOf];omega
  .have m:k=s:=by omega
   subst m;go_wp2;go_ret;exact⟨pY (by rw[r.out]),rfl⟩
def fE (s p:Nat)(a:ByteArray):Nat:=(kR (num a.data.toList) p s).1
theorem wu (s p:Nat)(a:ByteArray)(h:1<=s):fE s p a<s:=by
 obtain⟨k,rfl⟩:∃k,s=k+1:=⟨s-1,by omega⟩
 have:=Ie (num a.data.toList) p k;unfold fE;omega
theorem Mw {s p:Nat}(a:1<=s)(b:s<=4)(c:1<=p)(d:p<=16):qM s p=true:=by
 simp only[qM,nR (show(1:Int)<=s by omega) (show(s:Int)<=4 by omega),nR (show(1:Int)<=p by omega) (show(p:Int)<=16 by omega),Bool.and_self]
theorem Kx (s p:Nat)(a:ByteArray)(w:World)(f:1<=s)(b:s<=4)(g:1<=p)(c:p<=16)(h:iX a=true)(d:a.size<=maxLen):Calls prog 23 #[.int .i64 s,.int .i64 p,.string a] w fun e w'=>e= .returned (.tuple #[.int .i64 (fE s p a),.int .i64 0])/\w'=w:=by
 have i:=Mw f b g c;go_enter func23,ntmps23;go_wp2_with (first|(refine(vG _ _ _).mono ?_;rintro e w' ⟨rfl,rfl⟩)|(refine(pT _ _ d).mono ?_;rintro e w' ⟨rfl,rfl⟩)|(refine(yY s p a _ b c d).mono ?_;rintro e w' ⟨rfl,rfl⟩))
 go_ret2;exact⟨rfl,rfl⟩
theorem CN (a b:Nat)(c:a<4294967296)(hb:b<4294967296):bits .xor .i64 (a:Int) (b:Int)=((a ^^^ b:Nat):Int):=by
 have d:a ^^^ b<2 ^ 32:=Nat.xor_lt_two_pow (by omega) (by omega);show IntKind.i64.wrap ((BitVec.ofInt 64 (a:Int) ^^^ BitVec.ofInt 64 (b:Int)).toNat:Int)=_;rw[BitVec.toNat_xor,ofInt_u64 a (by omega),ofInt_u64 b (by omega)];simp[IntKind.wrap,IntKind.bits,IntKind.signed];omega
theorem Rl (l:List UInt8):0<=qo l/\qo l<4294967296:=by
 have:∀(l:List UInt8) (h:Int),0<=h/\h<4294967296->0<=l.foldl wQ h/\l.foldl wQ h<4294967296:=by
  intro l;induction l with
  |nil=>exact fun h a=>a
  |cons b l c=>intro h _;exact c _ (by unfold wQ;omega)
 exact this l _ (by omega)
theorem Lb (h:Int)(b:UInt8)(a:0<=h)(c:h<4294967296):∃X:Int,0<=X/\X<4294967296/\bits .xor .i64 h (b.toNat:Int)=X/\wQ h b=X*16777619 % 4294967296:=by
 obtain⟨n,rfl⟩:=js a;have d:=b.toNat_lt;have e:(b.toNat:Int) % 4294967296=(b.toNat:Int):=by omega
 have f:n ^^^ b.toNat<2 ^ 32:=Nat.xor_lt_two_pow (by omega) (by omega);refine⟨((n ^^^ b.toNat:Nat):Int),by omega,by omega,CN n b.toNat (by omega) (by omega),?_⟩;unfold wQ;rw[e,u32_xor_nat n b.toNat (by omega) (by omega)]
theorem KC (h:Int)(b:UInt8)(a:0<=h)(c:h<4294967296):(wrap64 (bits .xor .i64 h (wrap64 (b.toNat:Int))*16777619)).tmod 4294967296=wQ h b:=by
 obtain⟨X,i,j,d,e⟩:=Lb h b a c;have k:=b.toNat_lt;have f:wrap64 (b.toNat:Int)=(b.toNat:Int):=by unfold wrap64;omega
 have g:wrap64 (X*16777619)=X*16777619:=by unfold wrap64;omega
 rw[f,d,g,e,Int.tmod_eq_emod_of_nonneg (by omega)]
theorem CK (s:ByteArray)(w:World)(b:s.size<=maxLen):Calls prog 164 #[.string s] w fun e w'=>e= .returned (.int .i64 (num s.data.toList))/\w'=w:=by
 unfold maxLen at b;go_wp2;go_loop [3,4] (fun h i=>∃k:Nat,k<=s.size/\i= .int .i64 k/\h= .int .i64 (qo (s.data.toList.take k))) (fun _ i=>s.size-(intOf i).toNat)
 case atStart=>exact⟨0,cG _,rfl,rfl⟩
 case round=>
  obtain⟨k,j,rfl,rfl⟩:=hrel;obtain⟨c,d⟩:=Rl (s.data.toList.take k);by_cases a:k<s.size
  .have f:Hid ((wrap64 (bits .xor .i64 (qo (s.data.toList.take k)) (wrap64 (s[k].toNat:Int))*16777619)).tmod 4294967296=qo (s.data.toList.take (k+1))):=by
    show _=_;rw[KC _ _ c d,kh s k a];simp[qo]
   generalize l:qo (s.data.toList.take k)=h at*;go_wp2;go_round
   case rel=>exact⟨k+1,by omega,by go_num,by rw[f.out]⟩
   case measure=>simp[intOf];omega
  .have g:Hid (num s.data.toList=qo (s.data.toList.take k)*16777619 % 4294967296):=by
    rw[dt (by simp;omega)];rfl
   go_wp2;go_ret;exact⟨pY g.out.symm,rfl⟩
def El:ByteArray:=⟨#[48,49,50,51,52,53,54,55,56,57]⟩
theorem GJ:∀n:Nat,n<10->El.extract n (n+1)=gh n:=by decide+kernel
theorem Lx:∀n:Nat,n<100->¬n<10->gh (n / 10)++El.extract (n % 10) (n % 10+1)=gh n:=by decide+kernel
theorem Cu (n:Nat)(w:World)(a:n<10):Calls prog 142 #[.int .i64 n] w fun e w'=>e= .returned (.string (gh n))/\w'=w:=by
 go_wp2;go_ret;exact⟨ir (GJ n a),rfl⟩
theorem GG (m:Int)(n:Nat)(w:World)(a:m=n)(b:n<10):Calls prog 142 #[.int .i64 m] w fun e w'=>e= .returned (.string (gh n))/\w'=w:=by
 subst a;exact Cu n w b
theorem mu (n:Nat)(w:World)(a:n<100):Calls prog 142 #[.int .i64 n] w fun e w'=>e= .returned (.string (gh n))/\∃q,w'=w.drewN q:=by
 by_cases h:n<10
 .exact(Cu n w h).mono fun e w' ⟨b,c⟩=>⟨b,0,by rw[c];rfl⟩
 .have d:=Lx n a h;have f:n / 10<10:=by omega
  have i:=fT (n / 10);have g:Hid (gh (n / 10)++El.extract (n % 10) (n % 10+1)=gh n):=d;go_wp2;go_quiet ((exact Calls.quiet_of_same (GG _ (n / 10) _ (by omega) f)))
  go_wp2;go_ret;exact⟨ir g.out,_,rfl⟩
variable {s:ByteArray}
theorem Hl (b:UInt8):(CU b=true/\((97<=(b.toNat:Int)/\(b.toNat:Int)<=122)\/(48<=(b.toNat:Int)/\(b.toNat:Int)<=57)))\/(CU b=false/\((b.toNat:Int)<48\/(57<(b.toNat:Int)/\(b.toNat:Int)<97)\/122<(b.toNat:Int))):=by
 unfold CU rm PH;by_cases a:97<=(b.toNat:Int)<;>by_cases c:(b.toNat:Int)<=122<;>by_cases d:48<=(b.toNat:Int)<;>by_cases e:(b.toNat:Int)<=57<;>simp[a,c,d,e]<;>omega
theorem EI {k:Nat}(h:k<s.size)(a:CU s[k]=false):iX s=false:=by
 simp only[iX,Ab,vR h a,kH]
theorem Hh (h:(s.data.toList.take s.size).all CU=true):iX s=eF 1 s.size 8:=by
 have:Ab s=true:=by rw[Ab,<-h,dt (by simp)]
 simp only[iX,this,mV]
theorem mB (s:ByteArray)(w:World)(q:s.size<=maxLen):Calls prog 137 #[.string s] w fun e w'=>e= .returned (.bool (iX s))/\w'=w:=by
 unfold maxLen at q;have j:Hid (∀k (h:k<s.size),CU s[k]=false->iX s=false):=fun k h r=>EI h r
 have t:Hid ((s.data.toList.take s.size).all CU=true->iX s=eF 1 s.size 8):=Hh;generalize l:iX s=g at*;clear l;go_wp2;go_loop [3] (fun i=>∃k:Nat,k<=s.size/\i= .int .i64 k/\Hid ((s.data.toList.take k).all CU=true)) (fun i=>s.size-(intOf i).toNat)
 case atStart=>exact⟨0,cG _,rfl,(by show _=_;simp)⟩
 case round=>
  obtain⟨k,u,rfl,a⟩:=hrel;by_cases b:k<s.size
  .rcases Hl s[k]with⟨c,h|h⟩|⟨c,h|h|h⟩
   .have m:Hid ((s.data.toList.take (k+1)).all CU=true):=by show _=_;rw[kh s k b,kg,a.out];simp[c]
    obtain⟨n,p⟩:=h;clear c;go_wp2;all_goals go_round
    all_goals first|exact⟨k+1,by omega,by go_num,m⟩|(simp[intOf];omega)
   .have m:Hid ((s.data.toList.take (k+1)).all CU=true):=by show _=_;rw[kh s k b,kg,a.out];simp[c]
    obtain⟨n,p⟩:=h;clear c;go_wp2;all_goals go_round
    all_goals first|exact⟨k+1,by omega,by go_num,m⟩|(simp[intOf];omega)
   .have d:=j.out k b c;have f:Hid (g=false):=d;clear c d;go_wp2;all_goals(go_ret;exact⟨cY f.out.symm,rfl⟩)
   .have d:=j.out k b c;have f:Hid (g=false):=d;obtain⟨n,p⟩:=h;clear c d;go_wp2;all_goals(go_ret;exact⟨cY f.out.symm,rfl⟩)
   .have d:=j.out k b c;have f:Hid (g=false):=d;clear c d;go_wp2;all_goals(go_ret;exact⟨cY f.out.symm,rfl⟩)
  .have o:k=s.size:=by omega
   subst o;have d:Hid (g=eF 1 s.size 8):=t.out a.out;by_cases n:1<=s.size
   .go_wp2;go_ret;refine⟨cY ?_,rfl⟩;rw[d.out];unfold eF;simp;omega
   .go_wp2;go_ret;refine⟨cY ?_,rfl⟩;rw[d.out];unfold eF;simp;omega
variable {f:List ByteArray}{d:Int}
structure og (w:World)(v:Value)(ss:List ByteArray):Prop where
 form:(∃b o c,v= .slice (some ⟨b,o,none⟩) ss.length c/\b<w.heap.size/\∀(i:Nat) (s:ByteArray),ss[i]?=some s->w.cell? ⟨b,o+i,none⟩=some (.string s))\/(∃a,v= .slice a 0 0/\ss=[])
 small:ss.length<=140737488355328
 zd:∀s∈ss,s.size<=maxLen
def gR (f:List ByteArray)(d:Int):Bool:=eF 1 f.length d&&f.all iX
theorem RM (h:eF 1 f.length d=false):gR f d=false:=by simp only[gR,h,PQ]
theorem yq {k:Nat}{s:ByteArray}(h:f[k]?=some s)(a:iX s=false):gR f d=false:=by
 have:f.all iX=false:=by grind
 simp only[gR,this,kH]
theorem LY (h:eF 1 f.length d=true)(a:(f.take f.length).all iX=true):gR f d=true:=by
 rw[gd]at a;simp only[gR,h,a,Bool.and_self]
theorem rl (v:Value)(f:List ByteArray)(d:Int)(w:World)(h:og w v f):Calls prog 75 #[v,.int .i64 d] w fun e w'=>e= .returned (.bool (gR f d))/\w'=w:=by
 obtain⟨t,I,l⟩:=h;have m:Hid (∀s∈f,s.size<=maxLen):=l;cases j:eF 1 f.length d with
 |false=>
  have u:Hid (gR f d=false):=RM j;rcases t with⟨b,o,c,rfl,_,x⟩|⟨a,rfl,rfl⟩
  .go_enter func75,ntmps75;go_wp2_with (refine(kC _ _ _ _).mono ?_;rintro e w' ⟨rfl,rfl⟩)
   go_ret;exact⟨cY u.out.symm,rfl⟩
  .go_enter func75,ntmps75;have C:=j;go_wp2_with (refine(kC _ _ _ _).mono ?_;rintro e w' ⟨rfl,rfl⟩)
   go_ret;exact⟨cY u.out.symm,rfl⟩
 |true=>
  rcases t with⟨b,o,c,rfl,_,x⟩|⟨a,rfl,rfl⟩
  .have D:Hid (∀(i:Nat) (s:ByteArray),f[i]?=some s->w.cell? ⟨b,o+i,none⟩=some (.string s)):=x;have E:Hid ((f.take f.length).all iX=true->gR f d=true):=LY j;have F:Hid (∀k s,f[k]?=some s->iX s=false->gR f d=false):=fun k s a b=>yq a b
   generalize J:gR f d=K at*;generalize y:f.length=n at*;have H:Hid (f.length=n):=y;clear y;go_enter func75,ntmps75;go_wp2_with (refine(kC _ _ _ _).mono ?_;rintro e w' ⟨rfl,rfl⟩)
   go_loop [14] (fun i=>∃k:Nat,k<=n/\i= .int .i64 k/\Hid ((f.take k).all iX=true)) (fun i=>n-(intOf i).toNat)
   case atStart=>exact⟨0,cG _,rfl,(by show _=_;simp)⟩
   case round=>
    obtain⟨k,L,rfl,g⟩:=hrel;by_cases p:k<n
    .obtain⟨s,q⟩:∃s,f[k]?=some s:=⟨f[k]'(by rw[H.out];exact p),cp _⟩
     have r:=D.out k s q;have z:=m.out s (cu q);have A:Hid (f[k]?=some s):=q;cases B:iX s with
     |true=>
      go_wp2_with (refine(pT _ _ z).mono ?_;rintro e w' ⟨rfl,rfl⟩)
      go_round
      case rel=>
       refine⟨k+1,by omega,by go_num,?_⟩;show _=_;rw[eV,A.out,kg,g.out];simp[B]
      case measure=>simp[intOf];omega
     |false=>
      go_wp2_with (refine(pT _ _ z).mono ?_;rintro e w' ⟨rfl,rfl⟩)
      go_ret;exact⟨cY (F.out k s A.out B).symm,rfl⟩
    .have:k=n:=by omega
     subst this;go_wp2;go_ret;exact⟨cY (E.out g.out).symm,rfl⟩
  .exfalso;simp[eF]at j
theorem rC (s:ByteArray)(w:World)(a:s.size<=maxLen):Calls prog 76 #[.string s] w fun e w'=>e= .returned (.bool (decide ((s.size:Int)<=40)))/\w'=w:=by
 go_wp2;go_ret;exact⟨rfl,rfl⟩
theorem og.later {w w':World}{v:Value}{d:List ByteArray}(h:og w v d)(hb:Below w.heap.size w w'):og w' v d:=by
 obtain⟨g,j,f⟩:=h;refine⟨?_,j,f⟩;rcases g with⟨b,o,c,rfl,e,k⟩|⟨a,rfl,rfl⟩
 .exact .inl ⟨b,o,c,rfl,cH e hb.size,fun i s l=>(hb.cell (p:=⟨b,o+i,none⟩) e).trans (k i s l)⟩
 .exact .inr ⟨a,rfl,rfl⟩
section
variable (v:Value)(d:List ByteArray)(a c:ByteArray)(b:Bool)(id:Int)(w:World)
theorem Lv (h:og w v d)(f:a.size<=maxLen):Calls prog 48 #[.agg #[.int .i64 1,v,.string a,.string c,.bool b,.int .i64 id]] w fun e w'=>e= .returned (.bool (gR d 4&&a.toList.isEmpty))/\Below w.heap.size w w':=by
 cases g:gR d 4 with
 |true=>
  go_enter pb,oi;go_wp2_with (first|(refine(rl v d _ _ (h.later cU)).mono ?_;rintro e w' ⟨rfl,rfl⟩)|(rintro e w' ⟨rfl,rfl⟩))
  go_ret;exact⟨cY (jf _).symm,cU⟩
 |false=>
  go_enter pb,oi;go_wp2_with (first|(refine(rl v d _ _ (h.later cU)).mono ?_;rintro e w' ⟨rfl,rfl⟩)|(rintro e w' ⟨rfl,rfl⟩))
  go_ret;exact⟨cY rfl,cU⟩
theorem Lw (h:og w v d)(f:a.size<=maxLen):Calls prog 48 #[.agg #[.int .i64 2,v,.string a,.string c,.bool b,.int .i64 id]] w fun e w'=>e= .returned (.bool (gR d 1&&decide ((a.size:Int)<=40)))/\Below w.heap.size w w':=by
 cases g:gR d 1 with
 |true=>
  go_enter pb,oi;go_wp2_with (first|(refine(rl v d _ _ (h.later cU)).mono ?_;rintro e w' ⟨rfl,rfl⟩)|(refine(rC _ _ f).mono ?_;rintro e w' ⟨rfl,rfl⟩))
  go_ret;exact⟨cY (jf _).symm,cU⟩
 |false=>
  go_enter pb,oi;go_wp2_with (first|(refine(rl v d _ _ (h.later cU)).mono ?_;rintro e w' ⟨rfl,rfl⟩)|(go_at_call 76;rintro e w' ⟨rfl,rfl⟩))
  go_ret;exact⟨cY rfl,cU⟩
theorem Lu (h:og w v d)(f:a.size<=maxLen):Calls prog 48 #[.agg #[.int .i64 3,v,.string a,.string c,.bool b,.int .i64 id]] w fun e w'=>e= .returned (.bool (gR d 1&&a.toList.isEmpty))/\Below w.heap.size w w':=by
 cases g:gR d 1 with
 |true=>
  go_enter pb,oi;go_wp2_with (first|(refine(rl v d _ _ (h.later cU)).mono ?_;rintro e w' ⟨rfl,rfl⟩)|(rintro e w' ⟨rfl,rfl⟩))
  go_ret;exact⟨cY (jf _).symm,cU⟩
 |false=>
  go_enter pb,oi;go_wp2_with (first|(refine(rl v d _ _ (h.later cU)).mono ?_;rintro e w' ⟨rfl,rfl⟩)|(go_at_call 76;rintro e w' ⟨rfl,rfl⟩))
  go_ret;exact⟨cY rfl,cU⟩
end
theorem Gw (k:Int)(v:Value)(a c:ByteArray)(b:Bool)(id:Int)(w:World)(d:k≠1)(f:k≠2)(g:k≠3):Calls prog 48 #[.agg #[.int .i64 k,v,.string a,.string c,.bool b,.int .i64 id]] w fun e w'=>e= .returned (.bool false)/\Below w.heap.size w w':=by
 go_wp2;go_ret;exact⟨rfl,cU⟩
variable {d:List ByteArray}
def fp (k:Int)(d:List ByteArray)(a:ByteArray):Bool:=
 if k=1 then gR d 4&&a.toList.isEmpty else if k=2 then gR d 1&&decide ((a.size:Int)<=40)else if k=3 then gR d 1&&a.toList.isEmpty else false
def db (k:Int)(v:Value)(a b:ByteArray)(c:Bool)(id:Int):Value:= .agg #[.int .i64 k,v,.string a,.string b,.bool c,.int .i64 id]
theorem mI (k:Int)(v:Value)(d:List ByteArray)(a b:ByteArray)(c:Bool)(id:Int)(w:World)(h:og w v d)(f:a.size<=maxLen):Calls prog 48 #[db k v a b c id] w fun e w'=>e= .returned (.bool (fp k d a))/\Below w.heap.size w w':=by
 unfold db;by_cases g:k=1
 .subst g;have:=Lv v d a b c id w h f;simpa [fp]using this
 .by_cases i:k=2
  .subst i;have:=Lw v d a b c id w h f;simpa [fp]using this
  .by_cases j:k=3
   .subst j;have:=Lu v d a b c id w h f;simpa [fp]using this
   .have:=Gw k v a b c id w g i j;simpa [fp,g,i,j]using this
theorem JF {k:Int}{a:ByteArray}{i:Nat}{s:ByteArray}(h:d[i]?=some s)(b:iX s=false):fp k d a=false:=by
 unfold fp;rw[yq h b,yq h b];simp
theorem Ax {a:Int}(h:(d.take d.length).all iX=true):gR d a=eF 1 d.length a:=by
 rw[gd]at h;simp only[gR,h,mV]
theorem iz (k:Int)(v:Value)(d:List ByteArray)(f t:ByteArray)(u:Bool)(id:Int)(w:World)(h:og w v d)(W:f.size<=maxLen):Calls prog 139 #[db k v f t u id] w fun e w'=>e= .returned (.bool (fp k d f))/\Below w.heap.size w w':=by
 unfold db;have C:Below w.heap.size w (w.alloc (.cells #[.int .i64 k,v,.string f,.string t,.bool u,.int .i64 id] 36)):=cU;have X:=h.later C;have g:Hid (Below w.heap.size w (w.alloc (.cells #[.int .i64 k,v,.string f,.string t,.bool u,.int .i64 id] 36))):=C;clear C h;obtain⟨O,sm,x⟩:=X;have D:Hid (∀s∈d,s.size<=maxLen):=x;have y:Hid (∀i s,d[i]?=some s->iX s=false->fp k d f=false):=fun i s a b=>JF a b
 have r:Hid ((d.take d.length).all iX=true->fp k d f=if k=1 then eF 1 d.length 4&&f.toList.isEmpty else if k=2 then eF 1 d.length 1&&decide ((f.size:Int)<=40)else if k=3 then eF 1 d.length 1&&f.toList.isEmpty else false):=by
  intro P;unfold fp;rw[Ax P,Ax P]
 clear x;obtain⟨Q,n,E,R⟩:∃(a:Option Addr) (c:Nat),v= .slice a d.length c/\∀(i:Nat) (s:ByteArray),d[i]?=some s->∃b o,a=some ⟨b,o,none⟩/\(w.alloc (.cells #[.int .i64 k,v,.string f,.string t,.bool u,.int .i64 id] 36)).cell? ⟨b,o+i,none⟩=some (.string s):=by
  rcases O with⟨b,o,c,rfl,_,Y⟩|⟨a,rfl,rfl⟩
  .exact⟨_,c,rfl,fun i s p=>⟨b,o,rfl,Y i s p⟩⟩
  .exact⟨a,0,rfl,fun i s p=>by simp at p⟩
 subst E;have Z:Hid (∀(i:Nat) (s:ByteArray),d[i]?=some s->∃b o,Q=some ⟨b,o,none⟩/\(w.alloc (.cells #[.int .i64 k,.slice Q d.length n,.string f,.string t,.bool u,.int .i64 id] 36)).cell? ⟨b,o+i,none⟩=some (.string s)):=R;clear R O;generalize S:d.length=L at*;have HL:Hid (d.length=L):=S;clear S;generalize F:fp k d f=z at*;clear F;go_wp2;go_loop [3] (fun i=>∃j:Nat,j<=L/\i= .int .i64 j/\Hid ((d.take j).all iX=true)) (fun i=>L-(intOf i).toNat)
 case atStart=>exact⟨0,cG _,rfl,(by show _=_;simp)⟩
 case round=>
  obtain⟨j,hj,rfl,q⟩:=hrel;by_cases H:j<L
  .obtain⟨s,p⟩:∃s,d[j]?=some s:=⟨d[j]'(by rw[HL.out];exact H),cp _⟩
   obtain⟨b,o,rfl,I⟩:=Z.out j s p;have T:=D.out s (cu p);have U:Hid (d[j]?=some s):=p;clear p;cases V:iX s with
   |true=>
    go_wp2_with (go_at_call 137;refine(mB _ _ T).mono ?_;rintro e w' ⟨rfl,rfl⟩)
    go_round
    case rel=>
     refine⟨j+1,by omega,by go_num,?_⟩;show _=_;rw[eV,U.out,kg,q.out];simp[V]
    case measure=>simp[intOf];omega
   |false=>
    have m:Hid (z=false):=y.out j s U.out V;go_wp2_with (go_at_call 137;refine(mB _ _ T).mono ?_;rintro e w' ⟨rfl,hw⟩;subst hw)
    go_ret;exact⟨cY m.out.symm,g.out⟩
  .have J:j=L:=by omega
   subst J;have m:=r.out q.out;unfold maxLen at W;by_cases K:k=1
   .subst K;have l:Hid (z=(eF 1 j 4&&f.toList.isEmpty)):=by show _=_;rw[m];simp
    clear m;by_cases B:1<=j
    .by_cases g2:j<=4
     .go_wp2;go_ret;exact⟨cY (by rw[l.out,nR (by omega) (by omega)];simp),g.out⟩
     .have aa:¬(j:Int)<=4:=by omega
      go_wp2;go_ret;exact⟨cY (by rw[l.out,nQ (by omega)];simp),g.out⟩
    .have A:¬(1:Int)<=j:=by omega
     go_wp2;go_ret;exact⟨cY (by rw[l.out,nQ (by omega)];simp),g.out⟩
   .by_cases M:k=2
    .subst M;have l:Hid (z=(eF 1 j 1&&decide ((f.size:Int)<=40))):=by show _=_;rw[m];simp
     clear m;by_cases B:j=1
     .subst B;go_wp2;go_ret;exact⟨cY (by rw[l.out,nR (by omega) (by omega)];simp),g.out⟩
     .have A:((j:Int)==1)=false:=by rw[dW];omega
      go_wp2;go_ret;exact⟨cY (by rw[l.out,nQ (by omega)];simp),g.out⟩
    .by_cases N:k=3
     .subst N;have l:Hid (z=(eF 1 j 1&&f.toList.isEmpty)):=by show _=_;rw[m];simp
      clear m;by_cases B:j=1
      .subst B;go_wp2;go_ret;exact⟨cY (by rw[l.out,nR (by omega) (by omega)];simp),g.out⟩
      .have A:((j:Int)==1)=false:=by rw[dW];omega
       go_wp2;go_ret;exact⟨cY (by rw[l.out,nQ (by omega)];simp),g.out⟩
     .have l:Hid (z=false):=by show _=_;rw[m];simp[K,M,N]
      clear m;have q1:(k==1)=false:=by simpa using K
      have q2:(k==2)=false:=by simpa using M
      have q3:(k==3)=false:=by simpa using N
      go_wp2;go_ret;exact⟨cY l.out.symm,g.out⟩
theorem OO (w:World):Calls prog 47 #[.int .i64 3] w fun e w'=>e= .returned (.tuple #[.iface 162 (.agg #[]),.bool true])/\w'=w:=by
 go_wp2;go_ret2;exact⟨rfl,rfl⟩
theorem NY (w:World):Calls prog 47 #[.int .i64 2] w fun e w'=>e= .returned (.tuple #[.iface 161 (.agg #[]),.bool true])/\w'=w:=by
 go_wp2;go_ret2;exact⟨rfl,rfl⟩
theorem OM (w:World):Calls prog 47 #[.int .i64 1] w fun e w'=>e= .returned (.tuple #[.iface 160 (.agg #[]),.bool true])/\w'=w:=by
 go_wp2;go_ret2;exact⟨rfl,rfl⟩
theorem IM (s:ByteArray)(w:World)(a:s.size<100):Calls prog 215 #[.string s] w fun e w'=>e= .returned (.string (gh s.size++⟨#[10]⟩++s++⟨#[10]⟩))/\w'=w:=by
 have b:=fT s.size;go_enter func215,ntmps215;go_wp2_with (refine(sX _ _ a).mono ?_;rintro e w' ⟨rfl,rfl⟩)
 go_ret;exact⟨rfl,rfl⟩
theorem jE {W a:World}(hb:Below W.heap.size W a):(∀b o,b<W.heap.size->a.cell? ⟨b,o,none⟩=W.cell? ⟨b,o,none⟩)/\(∀b o,b<W.heap.size->a.frozen? ⟨b,o,none⟩=W.frozen? ⟨b,o,none⟩):=
 ⟨fun b o h=>hb.cell (p:=⟨b,o,none⟩) h,fun b o h=>hb.frozen (p:=⟨b,o,none⟩) h⟩
theorem MN (w:World)(a b c d e f g:Int):
 (convert 80 9 (.slice (some ⟨w.heap.size,0,none⟩) 7 7)).run prog (w.alloc (.cells #[.int .u8 a,.int .u8 b,.int .u8 c,.int .u8 d,.int .u8 e,.int .u8 f,.int .u8 g] 5))=
  .ok (.string (strOfNums [a,b,c,d,e,f,g])) (w.alloc (.cells #[.int .u8 a,.int .u8 b,.int .u8 c,.int .u8 d,.int .u8 e,.int .u8 f,.int .u8 g] 5)):=
 iY (P:=prog) _ 80 5 fg kP w.heap.size 0 7 7 [a,b,c,d,e,f,g] rfl (fun i j=>by
  have h:i=0\/i=1\/i=2\/i=3\/i=4\/i=5\/i=6:=by omega
  rcases h with rfl|rfl|rfl|rfl|rfl|rfl|rfl<;>simp) 9 fi
def gO (a b c d id:Int):ByteArray:=strOfNums [a,b,c,d % 256,d / 256,id % 256,id / 256]
section
variable (a b c d id:Int)(w:World)
theorem we (g:0<=a/\a<256)(hb:0<=b/\b<256)(h:0<=c/\c<256)(i:0<=d/\d<65536)(j:0<=id/\id<65536):Calls prog 180 #[.int .i64 a,.int .i64 b,.int .i64 c,.int .i64 d,.int .i64 id] w fun e w'=>e= .returned (.string (gO a b c d id))/\Below w.heap.size w w':=by
 have f:=MN;go_wp2;go_ret;exact⟨rfl,cU⟩
theorem vd (g:0<=a/\a<256)(hb:0<=b/\b<256)(h:0<=c/\c<256)(i:0<=d/\d<65536)(j:0<=id/\id<65536):Calls prog 141 #[.int .i64 a,.int .i64 b,.int .i64 c,.int .i64 d,.int .i64 id] w fun e w'=>e= .returned (.string (gO a b c d id))/\Below w.heap.size w w':=by
 have f:=MN;go_wp2;go_ret;exact⟨rfl,cU⟩
end
end Go.Proofs.YtlonjggfnleolaaGreatDoor
namespace Go.Proofs
open Go.Shelf
def Tryz.lays169_ren:Go.Shelf.Ren:=⟨fun|169=>57|n=>n,fun|70=>121|9=>9|0=>0|72=>123|37=>80|127=>173|3=>3|5=>5|n=>n,fun|n=>n⟩
theorem Tryz.lays169:Go.Proofs.Lays.n169 Tryz.prog Tryz.lays169_ren:={
 mixed:=by kernel_rfl
 f169:=Tryz.func57.trans (congrArg some (by kernel_rfl))
 t0:=Tryz.underlying0
 a0:=Tryz.isAgg0
 z0:=Tryz.sizeOf0
 v0:=Tryz.zeroValue0
 t3:=Tryz.underlying3
 a3:=Tryz.isAgg3
 z3:=Tryz.sizeOf3
 v3:=Tryz.zeroValue3
 t9:=Tryz.underlying9
 a9:=Tryz.isAgg9
 z9:=Tryz.sizeOf9
 v9:=Tryz.zeroValue9
 t37:=Tryz.underlying80
 a37:=Tryz.isAgg80
 z37:=Tryz.sizeOf80
 v37:=Tryz.zeroValue80
 t70:=Tryz.underlying121
 a70:=Tryz.isAgg121
 z70:=Tryz.sizeOf121
 v70:=Tryz.zeroValue121
 t72:=Tryz.underlying123
 a72:=Tryz.isAgg123
 z72:=Tryz.sizeOf123
 v72:=Tryz.zeroValue123
 t127:=Tryz.underlying173
 a127:=Tryz.isAgg173
 z127:=Tryz.sizeOf173
 v127:=Tryz.zeroValue173}
theorem Tryz.Builder_Extra_169:Builder.Extra Tryz.prog Tryz.lays169_ren:={
 sizeBuilder:=by kernel_rfl
 liesBuilder:=by kernel_rfl
 t5:=Tryz.underlying5
 a5:=Tryz.isAgg5
 z5:=Tryz.sizeOf5
 v5:=Tryz.zeroValue5
 infoByte:=by kernel_rfl
 cellsByte:=by kernel_rfl
 sizeByte:=by kernel_rfl
 neB5:=by decide}
open Go.RowKit in
theorem Tryz.Builder_String (B b:Nat)(l:List UInt8)(w:World)(h:Lib.IsBuilder 123 5 B b (Lib.byteCells l) w)(h0:l≠[]):
 Calls Tryz.prog 57 #[.pointer (some ⟨b,0,none⟩)] w fun e w'=>e= .returned (.string ⟨l.toArray⟩)/\Below B w w':=Any.Builder_String Tryz.lays169 Tryz.Builder_Extra_169 B b l w h h0
open Go.RowKit in
theorem Tryz.Builder_String_empty (B b:Nat)(w:World)(h:Lib.IsBuilder 123 5 B b [] w)(hBw:B<=w.heap.size):
 Calls Tryz.prog 57 #[.pointer (some ⟨b,0,none⟩)] w fun e w'=>e= .returned (.string ⟨#[]⟩)/\Below B w w':=Any.Builder_String_empty Tryz.lays169 Tryz.Builder_Extra_169 B b w h hBw
open Go.RowKit in
theorem Tryz.Builder_String_any (B b:Nat)(l:List UInt8)(w:World)(h:Lib.IsBuilder 123 5 B b (Lib.byteCells l) w)(hBw:B<=w.heap.size):
 Calls Tryz.prog 57 #[.pointer (some ⟨b,0,none⟩)] w fun e w'=>e= .returned (.string ⟨l.toArray⟩)/\Below B w w':=Any.Builder_String_any Tryz.lays169 Tryz.Builder_Extra_169 B b l w h hBw
def Tryz.lays156_ren:Go.Shelf.Ren:=⟨fun|156=>214|165=>220|166=>128|169=>57|240=>159|241=>225|276=>169|277=>228|n=>n,fun|31=>34|9=>9|3=>3|4=>4|0=>0|20=>20|72=>123|76=>213|70=>121|37=>80|75=>212|127=>173|164=>269|5=>5|80=>130|n=>n,fun|n=>n⟩
theorem Tryz.lays156:Go.Proofs.Lays.n156 Tryz.prog Tryz.lays156_ren:={
 mixed:=by kernel_rfl
 f156:=Tryz.func214.trans (congrArg some (by kernel_rfl))
 f165:=Tryz.func220.trans (congrArg some (by kernel_rfl))
 f166:=Tryz.func128.trans (congrArg some (by kernel_rfl))
 f169:=Tryz.func57.trans (congrArg some (by kernel_rfl))
 f240:=Tryz.func159.trans (congrArg some (by kernel_rfl))
 f241:=Tryz.func225.trans (congrArg some (by kernel_rfl))
 f276:=Tryz.func169.trans (congrArg some (by kernel_rfl))
 f277:=Tryz.func228.trans (congrArg some (by kernel_rfl))
 t0:=Tryz.underlying0
 a0:=Tryz.isAgg0
 z0:=Tryz.sizeOf0
 v0:=Tryz.zeroValue0
 t3:=Tryz.underlying3
 a3:=Tryz.isAgg3
 z3:=Tryz.sizeOf3
 v3:=Tryz.zeroValue3
 t4:=Tryz.underlying4
 a4:=Tryz.isAgg4
 z4:=Tryz.sizeOf4
 v4:=Tryz.zeroValue4
 t9:=Tryz.underlying9
 a9:=Tryz.isAgg9
 z9:=Tryz.sizeOf9
 v9:=Tryz.zeroValue9
 t20:=Tryz.underlying20
 a20:=Tryz.isAgg20
 z20:=Tryz.sizeOf20
 v20:=Tryz.zeroValue20
 t31:=Tryz.underlying34
 a31:=Tryz.isAgg34
 z31:=Tryz.sizeOf34
 v31:=Tryz.zeroValue34
 t37:=Tryz.underlying80
 a37:=Tryz.isAgg80
 z37:=Tryz.sizeOf80
 v37:=Tryz.zeroValue80
 t70:=Tryz.underlying121
 a70:=Tryz.isAgg121
 z70:=Tryz.sizeOf121
 v70:=Tryz.zeroValue121
 t72:=Tryz.underlying123
 a72:=Tryz.isAgg123
 z72:=Tryz.sizeOf123
 v72:=Tryz.zeroValue123
 t75:=Tryz.underlying212
 a75:=Tryz.isAgg212
 z75:=Tryz.sizeOf212
 v75:=Tryz.zeroValue212
 t76:=Tryz.underlying213
 a76:=Tryz.isAgg213
 z76:=Tryz.sizeOf213
 v76:=Tryz.zeroValue213
 t127:=Tryz.underlying173
 a127:=Tryz.isAgg173
 z127:=Tryz.sizeOf173
 v127:=Tryz.zeroValue173
 t164:=Tryz.underlying269
 a164:=Tryz.isAgg269
 z164:=Tryz.sizeOf269
 v164:=Tryz.zeroValue269}
theorem Tryz.Builder_Extra_156:Builder.Extra Tryz.prog Tryz.lays156_ren:={
 sizeBuilder:=by kernel_rfl
 liesBuilder:=by kernel_rfl
 t5:=Tryz.underlying5
 a5:=Tryz.isAgg5
 z5:=Tryz.sizeOf5
 v5:=Tryz.zeroValue5
 infoByte:=by kernel_rfl
 cellsByte:=by kernel_rfl
 sizeByte:=by kernel_rfl
 neB5:=by decide}
open Go.RowKit in
theorem Tryz.strings_Join_none (a:Option Addr)(c:Nat)(sep:ByteArray)(w:World):
 Calls Tryz.prog 214 #[.slice a 0 c,.string sep] w fun e w'=>e= .returned (.string ⟨#[]⟩)/\w'=w:=Any.strings_Join_none Tryz.lays156 Tryz.Builder_Extra_156 a c sep w
open Go.RowKit in
theorem Tryz.strings_Join (bk o c:Nat)(xs:List ByteArray)(sep:ByteArray)(w:World)(hcells:∀(j:Nat) x,xs[j]?=some x->w.cell? ⟨bk,o+j,none⟩=some (.string x))(hbk:bk<w.heap.size)(hN:xs.length<=140737488355328)(hcap:xs.length<=c)(hlen:(Lib.join (xs.map (·.data.toList)) sep.data.toList).length<=140737488355328):
 Calls Tryz.prog 214 #[.slice (some ⟨bk,o,none⟩) xs.length c,.string sep] w fun e w'=>e= .returned (.string ⟨(Lib.join (xs.map (·.data.toList)) sep.data.toList).toArray⟩)/\Below w.heap.size w w':=Any.strings_Join Tryz.lays156 Tryz.Builder_Extra_156 bk o c xs sep w hcells hbk hN hcap hlen
open Go.RowKit in
theorem Tryz.writeString (B b:Nat)(bs:List Value)(s:ByteArray)(w:World)(h:Lib.IsBuilder 123 5 B b bs w)(hlen:bs.length+s.size<=140737488355328)(hBw:B<=w.heap.size):
 Calls Tryz.prog 128 #[.pointer (some ⟨b,0,none⟩),.string s] w fun e w'=>e= .returned (.tuple #[.int .i64 s.size,.nilIface])/\(Lib.BuilderAt 123 5 B b (.pointer (some ⟨b,0,none⟩)) (bs++Lib.strCells s) w'/\Below B w w'):=
 Any.Builder_WriteString {Tryz.lays156 with} Tryz.Builder_Extra_156 B b bs s w h hlen hBw
end Go.Proofs
namespace Go.Proofs.YtlonjggfnleolaaGreatDoor
open Go.RowKit Go.Proofs.Tryz
variable {s:ByteArray}{d:List ByteArray}
theorem FT {p:Prop}(h:p):Hid p:=h
theorem Br (h:s.toList.isEmpty=true):s.size=0:=by
 rw[jC]at h;have:s.data.toList=[]:=by simp_all
 have a:s.data.toList.length=0:=by grind
 simpa using a
structure Jl (k:Int)(ss:List ByteArray)(val:ByteArray):Prop where
 kind:k=1\/k=2\/k=3
 xn:1<=ss.length
 yu:ss.length<=4
 one:k≠1->ss.length=1
 keys:∀s∈ss,s.size<=8
 xi:val.size<=40
 Pj:k≠2->val.size=0
theorem Hi (h:iX s=true):s.size<=8:=by
 simp only[iX,eF,cO,cX]at h;omega
theorem wi {m:Int}(h:gR d m=true):1<=d.length/\(d.length:Int)<=m/\∀s∈d,s.size<=8:=by
 simp only[gR,eF,cO,cX,jN]at h;exact⟨by omega,h.1.2,fun s a=>Hi (h.2 s a)⟩
theorem nj {k:Int}{e:ByteArray}(h:fp k d e=true):Jl k d e:=by
 unfold fp at h;split at h
 .rename_i f;simp only[cO]at h;obtain⟨a,b,c⟩:=wi h.1;have:=Br h.2;exact⟨.inl f,a,by omega,fun n=>absurd f n,c,by omega,fun _=>this⟩
 .split at h
  .rename_i f g;simp only[cO,cX]at h;obtain⟨a,b,c⟩:=wi h.1;exact⟨.inr (.inl g),a,by omega,fun _=>by omega,c,by omega,fun n=>absurd g n⟩
  .split at h
   .rename_i f g i;simp only[cO]at h;obtain⟨a,b,c⟩:=wi h.1;have:=Br h.2;exact⟨.inr (.inr i),a,by omega,fun _=>by omega,c,by omega,fun _=>this⟩
   .cases h
theorem Sj (n:Nat):((n:Int)==1)=decide (n=1):=by grind
def gI (k:Int)(n:Nat)(id:Int):Bool:=decide (0<=id)&&decide (id<=65535)&&(decide (k≠1) || decide (n=1))
theorem uS (k:Int)(a:Option Addr)(n c:Nat)(d m:ByteArray)(o:Bool)(f id:Int)(w:World):Calls prog 243 #[.agg #[],db k (.slice a n c) d m o f,.int .i64 id] w fun e w'=>e= .returned (.bool (gI k n id))/\Below w.heap.size w w':=by
 unfold db;have p:∀x y,Below w.heap.size w ((w.alloc x).alloc y):=fun x y=>(cU).alloc (by simp) _
 have b:Hid (∀x y,Below w.heap.size w ((w.alloc x).alloc y)):=p;by_cases g:0<=id
 .by_cases h:id<=65535
  .by_cases i:k=1
   .subst i;go_wp2;go_ret;exact⟨cY (by rw[Sj n];simp[gI,g,h]),b.out _ _⟩
   .have q:(k != 1)=true:=by simpa using i
    go_wp2;go_ret;exact⟨cY (by simp[gI,g,h,i]),b.out _ _⟩
  .have j:=h;go_wp2;go_ret;exact⟨cY (by
    have:decide (id<=65535)=false:=by simpa using j
    simp[gI,this]),b.out _ _⟩
 .have l:=g;go_wp2;go_ret;exact⟨cY (by
   have:decide (0<=id)=false:=by simpa using l
   simp[gI,this]),b.out _ _⟩
section
variable (c:Array Value)(id:Int)(w:World)
theorem Bm:Calls prog 250 #[.agg #[],.agg c,.int .i64 id] w fun e w'=>e= .returned (.bool true)/\Below w.heap.size w w':=by
 go_wp2;go_ret;exact⟨rfl,cU.alloc (by simp) _⟩
theorem xV:Calls prog 210 #[.agg #[],.agg c,.int .i64 id] w fun e w'=>e= .returned (.bool true)/\Below w.heap.size w w':=by
 go_wp2;go_ret;exact⟨rfl,cU.alloc (by simp) _⟩
end
theorem MX (k:Int)(b o c:Nat)(a d l:ByteArray)(m:Bool)(g id:Int)(w:World)(n:k=1\/k=2\/k=3)(hb:b<w.heap.size)(u:w.cell? ⟨b,o,none⟩=some (.string a))(p:a.size<=8)(v:d.size<=40)(x:0<=id)(y:id<=65535):Calls prog 170 #[.agg #[],db k (.slice (some ⟨b,o,none⟩) 1 c) d l m g,.int .i64 id] w fun e w'=>e= .returned (.string (gO 1 k a.size d.size id++a++d))/\Below w.heap.size w w':=by
 unfold db;have i:0<=k/\k<256:=by omega
 have j:=fun W=>we 1 k a.size d.size id W (by omega) i (by omega) (by omega) (by omega)
 have q:Hid (∀W:World,Calls prog 180 #[.int .i64 1,.int .i64 k,.int .i64 a.size,.int .i64 d.size,.int .i64 id] W fun e w'=>e= .returned (.string (gO 1 k a.size d.size id))/\Below W.heap.size W w'):=j;have r:(gO 1 k a.size d.size id).size=7:=by unfold gO;rw[qC];rfl
 have z:¬9223372036854775807<7+a.size:=by omega
 have A:¬9223372036854775807<7+a.size+d.size:=by omega
 clear j i n;go_wp2;go_region_held3 (fun w'=>w'.cell? ⟨w.heap.size+1,0,none⟩=some (.int .i64 k)/\w'.cell? ⟨w.heap.size+1,2,none⟩=some (.string d)) (go_keep)
  (first|(go_at_call 180;refine(q.out _).mono ?_;rintro e B ⟨rfl,f⟩;have s:=(f.cell (p:=⟨w.heap.size+1,0,none⟩) (by simp));have t:=(f.cell (p:=⟨w.heap.size+1,2,none⟩) (by simp));have h:=FT f;clear f))
 go_wp2;go_ret;exact⟨rfl,((cU.alloc (by simp) _).drew).trans (h.out.mono (by simp[Nat.le_add_right,Nat.add_assoc]))⟩
def rp (k:Int):ByteArray:=if k=1 then⟨#[103,101,116]⟩else if k=2 then⟨#[115,101,116]⟩else⟨#[100,101,108]⟩
theorem yC (k:Int):(rp k).size=3:=by unfold rp;split;rfl;split<;>rfl
theorem yD (k:Int)(w:World)(a:k=1\/k=2\/k=3):Calls prog 213 #[.int .i64 k] w fun e w'=>e= .returned (.string (rp k))/\w'=w:=by
 rcases a with rfl|rfl|rfl;all_goals
  go_wp2
  go_ret
  exact⟨rfl,rfl⟩
def pg (a:List ByteArray):ByteArray:=⟨(Lib.join (a.map (·.data.toList)) [32]).toArray⟩
theorem Rs (a:List ByteArray):(pg a).size=(Lib.join (a.map (·.data.toList)) [32]).length:=by simp[pg,ByteArray.size]
theorem gz (s:ByteArray):s.data.toList.length=s.size:=by simp
theorem yn {f:List ByteArray}(k:1<=f.length)(l:f.length<=4)(e:∀s∈f,s.size<=8):(pg f).size<=35:=by
 rw[Rs];match f,k,l,e with
 | [a],_,_,e=>
  have g:=e a (by simp);have h:=gz a;simp only[eu,iI,Lib.join,List.intercalate,jR,lP,oI,cI,fk];omega
 | [a,b],_,_,e=>
  have g:=e a (by simp);have h:=gz a;have i:=e b (by simp);have j:=gz b;simp only[eu,iI,Lib.join,List.intercalate,mf,jR,lP,oI,cI,dc,fk];omega
 | [a,b,c],_,_,e=>
  have g:=e a (by simp);have h:=gz a;have i:=e b (by simp);have j:=gz b;have m:=e c (by simp);have n:=gz c;simp only[eu,iI,Lib.join,List.intercalate,mf,jR,lP,oI,cI,dc,fk];omega
 | [a,b,c,d],_,_,e=>
  have g:=e a (by simp);have h:=gz a;have i:=e b (by simp);have j:=gz b;have m:=e c (by simp);have n:=gz c;have o:=e d (by simp);have p:=gz d;simp only[eu,iI,Lib.join,List.intercalate,mf,jR,lP,oI,cI,dc,fk];omega
theorem RH (f o c:Nat)(a:List ByteArray)(w:World)(b:∀(j:Nat) x,a[j]?=some x->w.cell? ⟨f,o+j,none⟩=some (.string x))(g:f<w.heap.size)(d:a.length<=c)(h:1<=a.length)(i:a.length<=4)(k:∀s∈a,s.size<=8):Calls prog 214 #[.slice (some ⟨f,o,none⟩) a.length c,.string ⟨#[32]⟩] w fun e w'=>e= .returned (.string (pg a))/\Below w.heap.size w w':=by
 have m:=yn h i k;have l:(Lib.join (a.map (·.data.toList)) [32]).length<=35:=by
  have e:(pg a).size=(Lib.join (a.map (·.data.toList)) [32]).length:=by simp[pg,ByteArray.size]
  omega
 exact Tryz.strings_Join f o c a ⟨#[32]⟩ w b g (by omega) d (by grind)
def sizedB (s:ByteArray):ByteArray:=gh s.size++⟨#[10]⟩++s++⟨#[10]⟩
def lE (k:Int)(b:List ByteArray)(a:ByteArray):ByteArray:=
 if k=2 then rp k++⟨#[32]⟩++pg b++⟨#[32]⟩++sizedB a else rp k++⟨#[32]⟩++pg b++⟨#[10]⟩
theorem qB (s:ByteArray)(w:World)(a:s.size<100):Calls prog 215 #[.string s] w fun e w'=>e= .returned (.string (sizedB s))/\w'=w:=IM s w a
theorem kZ {s:ByteArray}(h:s.size<=40):(sizedB s).size<=44:=by
 have:=fT s.size;have e:(ByteArray.mk #[10]).size=1:=rfl;unfold sizedB;rw[cR,cR,cR];omega
theorem Of (k:Int)(b o c:Nat)(d:List ByteArray)(a A:ByteArray)(B:Bool)(p id:Int)(w:World)(R:Jl k d a)(hb:b<w.heap.size)(h:d.length<=c)(u:∀(j:Nat) x,d[j]?=some x->w.cell? ⟨b,o+j,none⟩=some (.string x)):Calls prog 209 #[.agg #[],db k (.slice (some ⟨b,o,none⟩) d.length c) a A B p,.int .i64 id] w fun e w'=>e= .returned (.string (lE k d a))/\Below w.heap.size w w':=by
 unfold db;have P:=yn R.xn R.yu R.keys;have C:=yC k;have D:=kZ R.xi;have v:Hid (∀W:World,Below w.heap.size w W->Calls prog 214 #[.slice (some ⟨b,o,none⟩) d.length c,.string ⟨#[32]⟩] W fun e w'=>e= .returned (.string (pg d))/\Below W.heap.size W w'):=
  fun W y=>RH b o c d W (fun j x hx=>(y.cell (p:=⟨b,o+j,none⟩) hb).trans (u j x hx)) (cH hb y.size) h R.xn R.yu R.keys
 have z:Hid (∀W:World,Calls prog 213 #[.int .i64 k] W fun e w'=>e= .returned (.string (rp k))/\w'=W):=fun W=>yD k W R.kind
 have E:Hid (∀W:World,Calls prog 215 #[.string a] W fun e w'=>e= .returned (.string (sizedB a))/\w'=W):=fun W=>qB a W (by have:=R.xi;omega)
 have Q:Hid (k=1\/k=2\/k=3):=R.kind;clear R u;generalize F:d.length=L at*;clear F;have m:Hid (lE k d a=if k=2 then rp k++⟨#[32]⟩++pg d++⟨#[32]⟩++sizedB a else rp k++⟨#[32]⟩++pg d++⟨#[10]⟩):=by show _=_;rfl
 generalize pg d=J at*;generalize sizedB a=Z at*;generalize rp k=N at*;have H:(ByteArray.mk #[32]).size=1:=rfl;have S:¬9223372036854775807<3+1:=by omega
 have T:¬9223372036854775807<3+1+J.size:=by omega
 go_wp2;go_cut [7]from 8 (fun I W=>I= .string (N++⟨#[32]⟩++J)/\Below w.heap.size w W/\W.cell? ⟨w.heap.size+1,0,none⟩=some (.int .i64 k)/\W.cell? ⟨w.heap.size+1,2,none⟩=some (.string a))
 case first=>
  go_region_held3 (fun w'=>w'.cell? ⟨w.heap.size+1,0,none⟩=some (.int .i64 k)/\w'.cell? ⟨w.heap.size+1,1,none⟩=some (.slice (some ⟨b,o,none⟩) L c)) (go_keep)
   (first
    |(go_at_call 213;refine(z.out _).mono ?_;rintro e K ⟨rfl,rfl⟩)
    |(go_at_call 214;refine(v.out _ ?hx).mono ?_;(case hx=>repeat(first|exact ct _ _|refine dV ?_|refine cV ?_ _|refine dU ?_ (by simp;try omega) _));rintro e U ⟨rfl,f⟩;have q:=(f.cell (p:=⟨w.heap.size+1,0,none⟩) (by simp));have M:=(f.cell (p:=⟨w.heap.size+1,1,none⟩) (by simp));have r:=(f.cell (p:=⟨w.heap.size+1,2,none⟩) (by simp));have s:=FT f;clear f))
  all_goals
   go_wp2_with fail
   go_meet
  all_goals
   exact⟨rfl,((cU.alloc (by simp) _).drew).trans (s.out.mono (by simp[Nat.le_add_right,Nat.add_assoc])),by rw[q];go_simp,by rw[r];go_simp⟩
 case rest=>
  obtain⟨rfl,i,V,X⟩:=hcut;have l:Hid (Below w.heap.size w wc):=i;clear i v z;have Y:¬9223372036854775807<3+1+J.size+1:=by omega
  by_cases n:k=2
  .subst n;have g:=m.out;rw[cN rfl]at g;have t:Hid (lE 2 d a=N++⟨#[32]⟩++J++⟨#[32]⟩++Z):=g;clear g m;go_wp2_with (go_at_call 215;refine(E.out _).mono ?_;rintro e K ⟨rfl,rfl⟩)
   go_ret;exact⟨ir t.out.symm,l.out⟩
  .have O:(k==2)=false:=by simpa using n
   have g:=m.out;rw[cD n]at g;have t:Hid (lE k d a=N++⟨#[32]⟩++J++⟨#[10]⟩):=g;clear g m n;go_wp2;go_ret;exact⟨ir t.out.symm,l.out⟩
end Go.Proofs.YtlonjggfnleolaaGreatDoor
