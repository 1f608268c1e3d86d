import Derived.Test.YtlonjggfnleolaaGreatDoorLines
namespace Go.Proofs.YtlonjggfnleolaaGreatDoor
open Go.RowKit
set_option linter.unusedVariables false
set_option maxHeartbeats 4000000
set_option maxRecDepth 20000
def TextsAt (W:World)(T cap:Nat)(xs:List ByteArray):Prop:=∃Z:Array Value,W.heap[T]?=some (.cells Z 9 (0,0))∧Z.size=cap∧xs.length≤cap∧∀(i:Nat) (x:ByteArray),xs[i]?=some x→Z[i]?=some (.string x)
theorem zeroLen (n:Nat):(Builtin.zeroCells #[Value.string ⟨#[]⟩] n).size=n:=by
 simp[Builtin.zeroCells]
def textL (t:ByteArray):List UInt8:=(ByteArray.mk #[36]++sizedB t).data.toList
def listsAskL (xs:List ByteArray):List UInt8:=(ByteArray.mk #[42]++dec100 xs.length++ByteArray.mk #[10]).data.toList++xs.flatMap textL
def txs (k:Int)(N a val:ByteArray):List ByteArray:=N::a::if k=2 then [val]else []
theorem txs2 (N a val:ByteArray):txs 2 N a val=[N,a,val]:=rfl
theorem txsn {k:Int}(h:k≠2)(N a val:ByteArray):txs k N a val=[N,a]:=by unfold txs;rw[if_neg h]
theorem textL_len {t:ByteArray}(h:t.size≤40):(textL t).length≤45:=by
 have:=sizedB_size h;have e:(ByteArray.mk #[36]).size=1:=rfl;unfold textL;rw[len_size,ByteArray.size_append];omega
theorem textsL_len (xs:List ByteArray)(h:∀x∈xs,x.size≤40):(xs.flatMap textL).length≤45*xs.length:=by
 induction xs with
 |nil=>simp
 |cons x xs ih=>
  have h1:=textL_len (h x (by simp));have h2:=ih (fun y hy=>h y (by simp[hy]));rw[List.flatMap_cons,List.length_append,List.length_cons];omega
theorem starL_len (L:Nat):(ByteArray.mk #[42]++dec100 L++ByteArray.mk #[10]).size≤4:=by
 have:=dec100_size L;have e:(ByteArray.mk #[42]).size=1:=rfl;have e2:(ByteArray.mk #[10]).size=1:=rfl;rw[ByteArray.size_append,ByteArray.size_append];omega
theorem lsAsk1 (k:Int)(b o c:Nat)(a:ByteArray)(val wd:ByteArray)(ft:Bool)(cid id:Int)(w:World)(R:Right k [a] val)(hb:b<w.heap.size)(hcap:1≤c)(c0:w.cell? ⟨b,o,none⟩=some (.string a)):Calls Tryz.prog 249 #[.agg #[],cmdV6 k (.slice (some ⟨b,o,none⟩) 1 c) val wd ft cid,.int .i64 id] w fun e w'=>e= .returned (.string ⟨(listsAskL (txs k (nameB k) a val)).toArray⟩)∧Below w.heap.size w w':=by
 unfold cmdV6;have HN:Hid (∀W:World,Calls Tryz.prog 213 #[.int .i64 k] W fun e w'=>e= .returned (.string (nameB k))∧w'=W):=fun W=>nameOf_any k W R.kind
 have hNs:=nameB_size k;have ha:=R.keys a (by simp);have hv:=R.val40;clear R;have hb1:b<w.heap.size+1:=by omega
 have hb2:b<w.heap.size+1+1:=by omega
 have hb3:b<w.heap.size+1+1+1:=by omega
 generalize hN:nameB k=N at*;clear hN;go_enter Tryz.func249,Tryz.ntmps249;go_wp2;go_cut [7]from 8 (fun s7 W=>∃T cap,s7= .slice (some ⟨T,0,none⟩) 2 cap∧TextsAt W T cap [N,a]∧T≠w.heap.size+1∧w.heap.size≤T∧Below w.heap.size w W∧W.cell? ⟨w.heap.size+1,0,none⟩=some (.int .i64 k)∧W.cell? ⟨w.heap.size+1,2,none⟩=some (.string val))
 case first=>
  go_region_held3 (fun w'=>w'.cell? ⟨w.heap.size+1,0,none⟩=some (.int .i64 k)∧w'.cell? ⟨w.heap.size+1,1,none⟩=some (.slice (some ⟨b,o,none⟩) 1 c)) (go_keep)
   (first|(go_at_call 213;refine(HN.out _).mono ?_;rintro e w4 ⟨rfl,rfl⟩))
  go_wp2_with fail
  go_meet
  case rel=>
   have hC:2≤(Question.appendCap 2 1 9).cut (w.tape (w.drawn+1) (Question.appendCap 2 1 9)):=Nat.le_add_right _ _;generalize (Question.appendCap 2 1 9).cut (w.tape (w.drawn+1) (Question.appendCap 2 1 9))=C at*;have hnew:=blkNew (((w.alloc (Obj.cells #[] 162)).alloc (Obj.cells #[Value.int IntKind.i64 k,Value.slice (some {block:=b,off:=o}) 1 c,Value.string val,Value.string wd,Value.bool ft,Value.int IntKind.i64 cid] 36)).alloc (Obj.cells #[Value.string N] 9)) (.cells (#[Value.string N,Value.string a]++Builtin.zeroCells #[Value.string {data:=#[]}] (C-2)) 9);rw[World.size_alloc,World.size_alloc,World.size_alloc]at hnew;refine⟨w.heap.size+1+1+1,C,rfl,⟨_,hnew,?_,hC,?_⟩,by omega,by omega,?_,by go_simp,by go_simp⟩
   ·rw[Array.size_append,zeroLen];simp;omega
   ·intro i x hx;have hi:i<2:=by simpa using(List.getElem?_eq_some_iff.1 hx).1
    rw[Array.getElem?_append_left (by simpa using hi)];have h2:i=0∨i=1:=by omega
    rcases h2 with rfl|rfl
    ·simp at hx;subst hx;rfl
    ·simp at hx;subst hx;rfl
   ·exact(((((Below.refl _ _).alloc (Nat.le_refl _) _).alloc (by simp) _).alloc (by simp;omega) _).alloc (by simp;omega) _).drew.drew
 case rest=>
  obtain⟨T,cap,rfl,hT,nT,lT,hBc,q0,q2⟩:=hcut;have HT:=hide' hT;have HB:=hide' hBc;obtain⟨Z,z1,z2,z3,z4⟩:=hT;have lTw:=blkLt z1;have tf:=blkFree z1;have HZ:=hide' z1;have HZ4:=hide' z4;clear z1 z4 hBc HN;have hz3:2≤cap:=z3;clear z3;have t0:wc.cell? ⟨T,0,none⟩=some (.string N):=(blkCell HZ.out 0).trans (HZ4.out 0 N rfl);have t1:wc.cell? ⟨T,1,none⟩=some (.string a):=(blkCell HZ.out 1).trans (HZ4.out 1 a rfl);go_upto_if 20 with(fail)
  go_cut [7]from 8 (fun s7 W=>∃T cap,s7= .slice (some ⟨T,0,none⟩) (txs k N a val).length cap∧TextsAt W T cap (txs k N a val)∧Below w.heap.size w W)
  case first=>
   by_cases h2:k=2
   ·subst h2;by_cases h3:3≤cap
    ·obtain⟨v2,hv2⟩:∃v,Z[2]?=some v:=⟨Z[2]'(by omega),Array.getElem?_eq_getElem _⟩
     have t2:wc.cell? ⟨T,2,none⟩=some v2:=(blkCell HZ.out 2).trans hv2;have HV:=hide' hv2;clear hv2;go_wp2_with fail
     go_meet
     case rel=>
      rw[txs2];refine⟨T,cap,rfl,⟨Z.setIfInBounds 2 (.string val),?_,by simpa using z2,by simpa using h3,?_⟩,?_⟩
      ·have:=(Below.heap_alloc (wc.setCell ⟨T,2,none⟩ (.string val)) (.cells #[.string val] 9) T (by simpa using lTw)).trans (blkSet HZ.out (.string val));exact this
      ·intro i x hx;have hi:i<3:=by simpa using(List.getElem?_eq_some_iff.1 hx).1
       have h4:i=0∨i=1∨i=2:=by omega
       rcases h4 with rfl|rfl|rfl
       ·rw[Array.getElem?_setIfInBounds_ne (by omega)];simp at hx;subst hx;exact HZ4.out 0 _ rfl
       ·rw[Array.getElem?_setIfInBounds_ne (by omega)];simp at hx;subst hx;exact HZ4.out 1 _ rfl
       ·simp at hx;subst hx;rw[Array.getElem?_setIfInBounds_self_of_lt (by omega)]
      ·exact(HB.out.setCell (p:=⟨T,2,none⟩) lT _).alloc (by simp;omega) _
    ·have h3':cap=2:=by omega
     subst h3';go_wp2_with fail
     go_meet
     case rel=>
      rw[txs2];have hC:3≤(Question.appendCap 3 2 9).cut (wc.tape wc.drawn (Question.appendCap 3 2 9)):=Nat.le_add_right _ _;generalize (Question.appendCap 3 2 9).cut (wc.tape wc.drawn (Question.appendCap 3 2 9))=C at*;have hnew:=blkNew (wc.alloc (Obj.cells #[Value.string val] 9)) (.cells (#[Value.string N,Value.string a,Value.string val]++Builtin.zeroCells #[Value.string {data:=#[]}] (C-3)) 9);rw[World.size_alloc]at hnew;refine⟨wc.heap.size+1,C,rfl,⟨_,hnew,?_,by simpa using hC,?_⟩,?_⟩
      ·rw[Array.size_append,zeroLen];simp;omega
      ·intro i x hx;have hi:i<3:=by simpa using(List.getElem?_eq_some_iff.1 hx).1
       rw[Array.getElem?_append_left (by simpa using hi)];have h4:i=0∨i=1∨i=2:=by omega
       rcases h4 with rfl|rfl|rfl<;>(simp at hx;subst hx;rfl)
      ·exact((HB.out.alloc HB.out.size _).alloc (Nat.le_trans HB.out.size (by simp)) _).drew
   ·have h2':(k==2)=false:=by simpa using h2
    go_wp2_with fail
    go_meet
    case rel=>
     rw[txsn h2];exact⟨T,cap,rfl,HT.out,HB.out⟩
  case rest=>
   obtain⟨T2,cap2,rfl,hT2,hB2⟩:=hcut;have hx1:(txs k N a val).length≤6:=by unfold txs;split<;>simp
   have hx2:∀x∈(txs k N a val),x.size≤40:=by
    intro x hx;unfold txs at hx;split at hx
    ·simp at hx;rcases hx with rfl|rfl|rfl<;>omega
    ·simp at hx;rcases hx with rfl|rfl<;>omega
   clear HT HB lTw tf HZ HZ4 t0 t1 q0 q2;generalize hXS:(txs k N a val)=xs at*;have HXS:=hide' hXS;clear hXS;have HB2:=hide' hB2;have hle:w.heap.size≤wc.heap.size:=hB2.size;obtain⟨Z2,y1,y2,y3,y4⟩:=hT2;have lT2:=blkLt y1;have HTX:Hid (∀W,Below wc.heap.size wc W→∀(i:Nat) (x:ByteArray),xs[i]?=some x→W.cell? ⟨T2,i,none⟩=some (.string x)):=fun W hW i x hx=>(hW.cell (p:=⟨T2,i,none⟩) lT2).trans ((blkCell y1 i).trans (y4 i x hx))
   have HX2:=hide' hx2;clear y1 y4 hB2 hx2;generalize hL:xs.length=L at*;have HL:=hide' hL;clear hL;have dL:=dec100_size L;have hst:=starL_len L;have HSpec:Hid (listsAskL xs=(ByteArray.mk #[42]++dec100 L++ByteArray.mk #[10]).data.toList++xs.flatMap textL):=by show _=_;rw[←HL.out];rfl
   have HLen:Hid (∀j,((xs.take j).flatMap textL).length≤270):=by
    intro j;have h1:=textsL_len (xs.take j) (fun x hx=>HX2.out x (List.mem_of_mem_take hx));have h2:(xs.take j).length≤xs.length:=List.length_take_le' _ _;have h3:=HL.out;omega
   generalize hl0:(ByteArray.mk #[42]++dec100 L++ByteArray.mk #[10])=l0 at*;go_wp2_with fail
   go_at_call 122;refine(itoa_any L _ (by omega)).mono ?_;rintro e w1 ⟨rfl,hw1⟩;subst hw1;go_wp2_with fail
   go_at_call 128;have hIs:Lib.IsBuilder 123 5 wc.heap.size wc.heap.size [] (wc.alloc (Obj.cells #[Value.pointer none,Value.slice none 0 0] 123)):= .inl ⟨Nat.le_refl _,.slice none 0 0,blkNew wc _,World.ownsRow_nil _ _ _ _,by simp[Value.ownBlock]⟩;refine(Tryz.writeString wc.heap.size wc.heap.size [] l0 _ hIs (by simp;omega) (by simp)).mono ?_;rintro e w2 ⟨rfl,hBA,hb2⟩;have hBel2:Below wc.heap.size wc w2:=((Below.refl _ _).alloc (Nat.le_refl _) _).trans hb2;have H2:Hid (Lib.BuilderAt 123 5 wc.heap.size wc.heap.size (.pointer (some ⟨wc.heap.size,0,none⟩)) (Lib.byteCells (l0.data.toList++(xs.take 0).flatMap textL)) w2∧Below wc.heap.size wc w2):=⟨by simpa [Lib.strCells_eq]using hBA,hBel2⟩
   clear hIs hBA hb2 hBel2;go_wp2;go_loopw [34] (fun i wr=>∃j:Nat,j≤L∧i= .int .i64 j∧Hid (Lib.BuilderAt 123 5 wc.heap.size wc.heap.size (.pointer (some ⟨wc.heap.size,0,none⟩)) (Lib.byteCells (l0.data.toList++(xs.take j).flatMap textL)) wr∧Below wc.heap.size wc wr)) (fun i _=>L-(intOf i).toNat)
   case atStart=>exact⟨0,Nat.zero_le _,rfl,H2⟩
   case round=>
    obtain⟨j,hj,rfl,HJ⟩:=hrel;by_cases hlt:j<L
    ·obtain⟨x,hx⟩:∃x,xs[j]?=some x:=⟨xs[j]'(by rw[HL.out];exact hlt),List.getElem?_eq_getElem _⟩
     have hcell:=HTX.out wr HJ.out.2 j x hx;have hxs:=HX2.out x (List.mem_of_getElem? hx);have hzs:=sizedB_size hxs;have HX:=hide' hx;clear hx;go_wp2_with fail
     go_at_call 215;refine(sized_any' x _ (by omega)).mono ?_;rintro e w3 ⟨rfl,hw3⟩;subst hw3;have htz:(ByteArray.mk #[36]++sizedB x).size≤45:=by rw[ByteArray.size_append];have e:(ByteArray.mk #[36]).size=1:=rfl;omega
     go_wp2_with fail
     go_at_call 128;have hln:=HLen.out j;refine(Tryz.writeString wc.heap.size wc.heap.size (Lib.byteCells (l0.data.toList++(xs.take j).flatMap textL)) (ByteArray.mk #[36]++sizedB x) _ (.inr HJ.out.1) ?hl1 ?hl2).mono ?_;case hl1=>rw[Lib.byteCells_length,List.length_append,len_size];omega
     case hl2=>exact HJ.out.2.size
     rintro e w4 ⟨rfl,hBA,hb4⟩;have HN4:Hid (Lib.BuilderAt 123 5 wc.heap.size wc.heap.size (.pointer (some ⟨wc.heap.size,0,none⟩)) (Lib.byteCells (l0.data.toList++(xs.take (j+1)).flatMap textL)) w4∧Below wc.heap.size wc w4):=by
      refine⟨?_,HJ.out.2.trans hb4⟩;have e1:(xs.take (j+1)).flatMap textL=(xs.take j).flatMap textL++textL x:=by
       rw[List.take_add_one,HX.out,List.flatMap_append];simp
      rw[e1,←List.append_assoc];have e2:∀l m:List UInt8,Lib.byteCells (l++m)=Lib.byteCells l++Lib.byteCells m:=fun l m=>by simp[Lib.byteCells]
      rw[e2];exact hBA
     clear hBA hb4;go_wp2;go_roundw;case rel=>exact⟨j+1,by omega,by go_num,HN4⟩
     case measure=>simp[intOf];omega
    ·have hj2:j=L:=by omega
     subst hj2;have HF:Hid (Lib.BuilderAt 123 5 wc.heap.size wc.heap.size (.pointer (some ⟨wc.heap.size,0,none⟩)) (Lib.byteCells (listsAskL xs)) wr∧Below wc.heap.size wc wr):=by
      have:=HJ.out;rw[←HL.out,List.take_length]at this;rw[HSpec.out];exact this
     clear HJ;go_wp2_with fail
     go_at_call 57;refine(Tryz.Builder_String_any wc.heap.size wc.heap.size (listsAskL xs) _ (.inr HF.out.1) HF.out.2.size).mono ?_;rintro e w5 ⟨rfl,hb5⟩;have HE:Hid (Below w.heap.size w w5):=HB2.out.trans ((HF.out.2.trans hb5).mono hle);clear hb5;go_wp2;go_ret;exact⟨ret_str (by rw[HXS.out]),HE.out⟩
theorem lsAsk2 (b o c:Nat)(a0 a1:ByteArray)(val wd:ByteArray)(ft:Bool)(cid id:Int)(w:World)(R:Right 1 [a0,a1] val)(hb:b<w.heap.size)(hcap:2≤c)(c0:w.cell? ⟨b,o,none⟩=some (.string a0))(c1:w.cell? ⟨b,o+1,none⟩=some (.string a1)):Calls Tryz.prog 249 #[.agg #[],cmdV6 1 (.slice (some ⟨b,o,none⟩) 2 c) val wd ft cid,.int .i64 id] w fun e w'=>e= .returned (.string ⟨(listsAskL (nameB 1::[a0,a1])).toArray⟩)∧Below w.heap.size w w':=by
 unfold cmdV6;have HN:Hid (∀W:World,Calls Tryz.prog 213 #[.int .i64 1] W fun e w'=>e= .returned (.string (nameB 1))∧w'=W):=fun W=>nameOf_any 1 W R.kind
 have hNs:=nameB_size 1;have hks:=R.keys;have HK:=hide' hks;clear R hks;have hb1:b<w.heap.size+1:=by omega
 have hb2:b<w.heap.size+1+1:=by omega
 have hb3:b<w.heap.size+1+1+1:=by omega
 generalize hN:nameB 1=N at*;clear hN;go_enter Tryz.func249,Tryz.ntmps249;go_wp2;go_cut [7]from 8 (fun s7 W=>∃T cap,s7= .slice (some ⟨T,0,none⟩) 3 cap∧TextsAt W T cap [N,a0,a1]∧Below w.heap.size w W∧W.cell? ⟨w.heap.size+1,0,none⟩=some (.int .i64 1))
 case first=>
  go_region_held3 (fun w'=>w'.cell? ⟨w.heap.size+1,0,none⟩=some (.int .i64 1)∧w'.cell? ⟨w.heap.size+1,1,none⟩=some (.slice (some ⟨b,o,none⟩) 2 c)) (go_keep)
   (first|(go_at_call 213;refine(HN.out _).mono ?_;rintro e w4 ⟨rfl,rfl⟩))
  go_wp2_with fail
  go_meet
  case rel=>
   have hC:3≤(Question.appendCap 3 1 9).cut (w.tape (w.drawn+1) (Question.appendCap 3 1 9)):=Nat.le_add_right _ _;generalize (Question.appendCap 3 1 9).cut (w.tape (w.drawn+1) (Question.appendCap 3 1 9))=C at*;have hnew:=blkNew (((w.alloc (Obj.cells #[] 162)).alloc (Obj.cells #[Value.int IntKind.i64 1,Value.slice (some {block:=b,off:=o}) 2 c,Value.string val,Value.string wd,Value.bool ft,Value.int IntKind.i64 cid] 36)).alloc (Obj.cells #[Value.string N] 9)) (.cells (#[Value.string N]++(#[Value.string a0,Value.string a1]++Builtin.zeroCells #[Value.string {data:=#[]}] (C-3))) 9);have eZ:(#[Value.string N]++(#[Value.string a0,Value.string a1]++Builtin.zeroCells #[Value.string {data:=#[]}] (C-3)))=(#[Value.string N,Value.string a0,Value.string a1]++Builtin.zeroCells #[Value.string {data:=#[]}] (C-3)):=by rw[←Array.append_assoc];rfl
   rw[World.size_alloc,World.size_alloc,World.size_alloc]at hnew;refine⟨w.heap.size+1+1+1,C,rfl,⟨_,hnew,?_,by simpa using hC,?_⟩,?_,by go_simp⟩
   ·rw[eZ,Array.size_append,zeroLen];simp;omega
   ·intro i x hx;rw[eZ];have hi:i<3:=by simpa using(List.getElem?_eq_some_iff.1 hx).1
    rw[Array.getElem?_append_left (by simpa using hi)];have h2:i=0∨i=1∨i=2:=by omega
    rcases h2 with rfl|rfl|rfl<;>(simp at hx;subst hx;rfl)
   ·exact(((((Below.refl _ _).alloc (Nat.le_refl _) _).alloc (by simp) _).alloc (by simp;omega) _).alloc (by simp;omega) _).drew.drew
 case rest=>
  obtain⟨T2,cap2,rfl,hT2,hB2,q0⟩:=hcut;have hx2:∀x∈[N,a0,a1],x.size≤40:=by
   intro x hx;rw[List.mem_cons]at hx;rcases hx with rfl|hx
   ·omega
   ·have:=HK.out x hx;omega
  have hx1: [N,a0,a1].length≤6:=by simp
  have hx3: [N,a0,a1].length=3:=rfl;clear HN;generalize hXS: [N,a0,a1]=xs at*;have HXS:=hide' hXS;clear hXS;rw[←hx3];clear hx3;have HB2:=hide' hB2;have hle:w.heap.size≤wc.heap.size:=hB2.size;obtain⟨Z2,y1,y2,y3,y4⟩:=hT2;have lT2:=blkLt y1;have HTX:Hid (∀W,Below wc.heap.size wc W→∀(i:Nat) (x:ByteArray),xs[i]?=some x→W.cell? ⟨T2,i,none⟩=some (.string x)):=fun W hW i x hx=>(hW.cell (p:=⟨T2,i,none⟩) lT2).trans ((blkCell y1 i).trans (y4 i x hx))
  have HX2:=hide' hx2;clear y1 y4 hB2 hx2;generalize hL:xs.length=L at*;have HL:=hide' hL;clear hL;have dL:=dec100_size L;have hst:=starL_len L;have HSpec:Hid (listsAskL xs=(ByteArray.mk #[42]++dec100 L++ByteArray.mk #[10]).data.toList++xs.flatMap textL):=by show _=_;rw[←HL.out];rfl
  have HLen:Hid (∀j,((xs.take j).flatMap textL).length≤270):=by
   intro j;have h1:=textsL_len (xs.take j) (fun x hx=>HX2.out x (List.mem_of_mem_take hx));have h2:(xs.take j).length≤xs.length:=List.length_take_le' _ _;have h3:=HL.out;omega
  generalize hl0:(ByteArray.mk #[42]++dec100 L++ByteArray.mk #[10])=l0 at*;go_wp2_with fail
  go_at_call 122;refine(itoa_any L _ (by omega)).mono ?_;rintro e w1 ⟨rfl,hw1⟩;subst hw1;go_wp2_with fail
  go_at_call 128;have hIs:Lib.IsBuilder 123 5 wc.heap.size wc.heap.size [] (wc.alloc (Obj.cells #[Value.pointer none,Value.slice none 0 0] 123)):= .inl ⟨Nat.le_refl _,.slice none 0 0,blkNew wc _,World.ownsRow_nil _ _ _ _,by simp[Value.ownBlock]⟩;refine(Tryz.writeString wc.heap.size wc.heap.size [] l0 _ hIs (by simp;omega) (by simp)).mono ?_;rintro e w2 ⟨rfl,hBA,hb2⟩;have hBel2:Below wc.heap.size wc w2:=((Below.refl _ _).alloc (Nat.le_refl _) _).trans hb2;have H2:Hid (Lib.BuilderAt 123 5 wc.heap.size wc.heap.size (.pointer (some ⟨wc.heap.size,0,none⟩)) (Lib.byteCells (l0.data.toList++(xs.take 0).flatMap textL)) w2∧Below wc.heap.size wc w2):=⟨by simpa [Lib.strCells_eq]using hBA,hBel2⟩
  clear hIs hBA hb2 hBel2;go_wp2;go_loopw [34] (fun i wr=>∃j:Nat,j≤L∧i= .int .i64 j∧Hid (Lib.BuilderAt 123 5 wc.heap.size wc.heap.size (.pointer (some ⟨wc.heap.size,0,none⟩)) (Lib.byteCells (l0.data.toList++(xs.take j).flatMap textL)) wr∧Below wc.heap.size wc wr)) (fun i _=>L-(intOf i).toNat)
  case atStart=>exact⟨0,Nat.zero_le _,rfl,H2⟩
  case round=>
   obtain⟨j,hj,rfl,HJ⟩:=hrel;by_cases hlt:j<L
   ·obtain⟨x,hx⟩:∃x,xs[j]?=some x:=⟨xs[j]'(by rw[HL.out];exact hlt),List.getElem?_eq_getElem _⟩
    have hcell:=HTX.out wr HJ.out.2 j x hx;have hxs:=HX2.out x (List.mem_of_getElem? hx);have hzs:=sizedB_size hxs;have HX:=hide' hx;clear hx;go_wp2_with fail
    go_at_call 215;refine(sized_any' x _ (by omega)).mono ?_;rintro e w3 ⟨rfl,hw3⟩;subst hw3;have htz:(ByteArray.mk #[36]++sizedB x).size≤45:=by rw[ByteArray.size_append];have e:(ByteArray.mk #[36]).size=1:=rfl;omega
    go_wp2_with fail
    go_at_call 128;have hln:=HLen.out j;refine(Tryz.writeString wc.heap.size wc.heap.size (Lib.byteCells (l0.data.toList++(xs.take j).flatMap textL)) (ByteArray.mk #[36]++sizedB x) _ (.inr HJ.out.1) ?hl1 ?hl2).mono ?_;case hl1=>rw[Lib.byteCells_length,List.length_append,len_size];omega
    case hl2=>exact HJ.out.2.size
    rintro e w4 ⟨rfl,hBA,hb4⟩;have HN4:Hid (Lib.BuilderAt 123 5 wc.heap.size wc.heap.size (.pointer (some ⟨wc.heap.size,0,none⟩)) (Lib.byteCells (l0.data.toList++(xs.take (j+1)).flatMap textL)) w4∧Below wc.heap.size wc w4):=by
     refine⟨?_,HJ.out.2.trans hb4⟩;have e1:(xs.take (j+1)).flatMap textL=(xs.take j).flatMap textL++textL x:=by
      rw[List.take_add_one,HX.out,List.flatMap_append];simp
     rw[e1,←List.append_assoc];have e2:∀l m:List UInt8,Lib.byteCells (l++m)=Lib.byteCells l++Lib.byteCells m:=fun l m=>by simp[Lib.byteCells]
     rw[e2];exact hBA
    clear hBA hb4;go_wp2;go_roundw;case rel=>exact⟨j+1,by omega,by go_num,HN4⟩
    case measure=>simp[intOf];omega
   ·have hj2:j=L:=by omega
    subst hj2;have HF:Hid (Lib.BuilderAt 123 5 wc.heap.size wc.heap.size (.pointer (some ⟨wc.heap.size,0,none⟩)) (Lib.byteCells (listsAskL xs)) wr∧Below wc.heap.size wc wr):=by
     have:=HJ.out;rw[←HL.out,List.take_length]at this;rw[HSpec.out];exact this
    clear HJ;go_wp2_with fail
    go_at_call 57;refine(Tryz.Builder_String_any wc.heap.size wc.heap.size (listsAskL xs) _ (.inr HF.out.1) HF.out.2.size).mono ?_;rintro e w5 ⟨rfl,hb5⟩;have HE:Hid (Below w.heap.size w w5):=HB2.out.trans ((HF.out.2.trans hb5).mono hle);clear hb5;go_wp2;go_ret;exact⟨ret_str (by rw[HXS.out]),HE.out⟩
theorem lsAsk3 (b o c:Nat)(a0 a1 a2:ByteArray)(val wd:ByteArray)(ft:Bool)(cid id:Int)(w:World)(R:Right 1 [a0,a1,a2] val)(hb:b<w.heap.size)(hcap:3≤c)(c0:w.cell? ⟨b,o,none⟩=some (.string a0))(c1:w.cell? ⟨b,o+1,none⟩=some (.string a1))(c2:w.cell? ⟨b,o+2,none⟩=some (.string a2)):Calls Tryz.prog 249 #[.agg #[],cmdV6 1 (.slice (some ⟨b,o,none⟩) 3 c) val wd ft cid,.int .i64 id] w fun e w'=>e= .returned (.string ⟨(listsAskL (nameB 1::[a0,a1,a2])).toArray⟩)∧Below w.heap.size w w':=by
 unfold cmdV6;have HN:Hid (∀W:World,Calls Tryz.prog 213 #[.int .i64 1] W fun e w'=>e= .returned (.string (nameB 1))∧w'=W):=fun W=>nameOf_any 1 W R.kind
 have hNs:=nameB_size 1;have hks:=R.keys;have HK:=hide' hks;clear R hks;have hb1:b<w.heap.size+1:=by omega
 have hb2:b<w.heap.size+1+1:=by omega
 have hb3:b<w.heap.size+1+1+1:=by omega
 generalize hN:nameB 1=N at*;clear hN;go_enter Tryz.func249,Tryz.ntmps249;go_wp2;go_cut [7]from 8 (fun s7 W=>∃T cap,s7= .slice (some ⟨T,0,none⟩) 4 cap∧TextsAt W T cap [N,a0,a1,a2]∧Below w.heap.size w W∧W.cell? ⟨w.heap.size+1,0,none⟩=some (.int .i64 1))
 case first=>
  go_region_held3 (fun w'=>w'.cell? ⟨w.heap.size+1,0,none⟩=some (.int .i64 1)∧w'.cell? ⟨w.heap.size+1,1,none⟩=some (.slice (some ⟨b,o,none⟩) 3 c)) (go_keep)
   (first|(go_at_call 213;refine(HN.out _).mono ?_;rintro e w4 ⟨rfl,rfl⟩))
  go_wp2_with fail
  go_meet
  case rel=>
   have hC:4≤(Question.appendCap 4 1 9).cut (w.tape (w.drawn+1) (Question.appendCap 4 1 9)):=Nat.le_add_right _ _;generalize (Question.appendCap 4 1 9).cut (w.tape (w.drawn+1) (Question.appendCap 4 1 9))=C at*;have hnew:=blkNew (((w.alloc (Obj.cells #[] 162)).alloc (Obj.cells #[Value.int IntKind.i64 1,Value.slice (some {block:=b,off:=o}) 3 c,Value.string val,Value.string wd,Value.bool ft,Value.int IntKind.i64 cid] 36)).alloc (Obj.cells #[Value.string N] 9)) (.cells (#[Value.string N]++(#[Value.string a0,Value.string a1,Value.string a2]++Builtin.zeroCells #[Value.string {data:=#[]}] (C-4))) 9);have eZ:(#[Value.string N]++(#[Value.string a0,Value.string a1,Value.string a2]++Builtin.zeroCells #[Value.string {data:=#[]}] (C-4)))=(#[Value.string N,Value.string a0,Value.string a1,Value.string a2]++Builtin.zeroCells #[Value.string {data:=#[]}] (C-4)):=by rw[←Array.append_assoc];rfl
   rw[World.size_alloc,World.size_alloc,World.size_alloc]at hnew;refine⟨w.heap.size+1+1+1,C,rfl,⟨_,hnew,?_,by simpa using hC,?_⟩,?_,by go_simp⟩
   ·rw[eZ,Array.size_append,zeroLen];simp;omega
   ·intro i x hx;rw[eZ];have hi:i<4:=by simpa using(List.getElem?_eq_some_iff.1 hx).1
    rw[Array.getElem?_append_left (by simpa using hi)];have h2:i=0∨i=1∨i=2∨i=3:=by omega
    rcases h2 with rfl|rfl|rfl|rfl<;>(simp at hx;subst hx;rfl)
   ·exact(((((Below.refl _ _).alloc (Nat.le_refl _) _).alloc (by simp) _).alloc (by simp;omega) _).alloc (by simp;omega) _).drew.drew
 case rest=>
  obtain⟨T2,cap2,rfl,hT2,hB2,q0⟩:=hcut;have hx2:∀x∈[N,a0,a1,a2],x.size≤40:=by
   intro x hx;rw[List.mem_cons]at hx;rcases hx with rfl|hx
   ·omega
   ·have:=HK.out x hx;omega
  have hx1: [N,a0,a1,a2].length≤6:=by simp
  have hx3: [N,a0,a1,a2].length=4:=rfl;clear HN;generalize hXS: [N,a0,a1,a2]=xs at*;have HXS:=hide' hXS;clear hXS;rw[←hx3];clear hx3;have HB2:=hide' hB2;have hle:w.heap.size≤wc.heap.size:=hB2.size;obtain⟨Z2,y1,y2,y3,y4⟩:=hT2;have lT2:=blkLt y1;have HTX:Hid (∀W,Below wc.heap.size wc W→∀(i:Nat) (x:ByteArray),xs[i]?=some x→W.cell? ⟨T2,i,none⟩=some (.string x)):=fun W hW i x hx=>(hW.cell (p:=⟨T2,i,none⟩) lT2).trans ((blkCell y1 i).trans (y4 i x hx))
  have HX2:=hide' hx2;clear y1 y4 hB2 hx2;generalize hL:xs.length=L at*;have HL:=hide' hL;clear hL;have dL:=dec100_size L;have hst:=starL_len L;have HSpec:Hid (listsAskL xs=(ByteArray.mk #[42]++dec100 L++ByteArray.mk #[10]).data.toList++xs.flatMap textL):=by show _=_;rw[←HL.out];rfl
  have HLen:Hid (∀j,((xs.take j).flatMap textL).length≤270):=by
   intro j;have h1:=textsL_len (xs.take j) (fun x hx=>HX2.out x (List.mem_of_mem_take hx));have h2:(xs.take j).length≤xs.length:=List.length_take_le' _ _;have h3:=HL.out;omega
  generalize hl0:(ByteArray.mk #[42]++dec100 L++ByteArray.mk #[10])=l0 at*;go_wp2_with fail
  go_at_call 122;refine(itoa_any L _ (by omega)).mono ?_;rintro e w1 ⟨rfl,hw1⟩;subst hw1;go_wp2_with fail
  go_at_call 128;have hIs:Lib.IsBuilder 123 5 wc.heap.size wc.heap.size [] (wc.alloc (Obj.cells #[Value.pointer none,Value.slice none 0 0] 123)):= .inl ⟨Nat.le_refl _,.slice none 0 0,blkNew wc _,World.ownsRow_nil _ _ _ _,by simp[Value.ownBlock]⟩;refine(Tryz.writeString wc.heap.size wc.heap.size [] l0 _ hIs (by simp;omega) (by simp)).mono ?_;rintro e w2 ⟨rfl,hBA,hb2⟩;have hBel2:Below wc.heap.size wc w2:=((Below.refl _ _).alloc (Nat.le_refl _) _).trans hb2;have H2:Hid (Lib.BuilderAt 123 5 wc.heap.size wc.heap.size (.pointer (some ⟨wc.heap.size,0,none⟩)) (Lib.byteCells (l0.data.toList++(xs.take 0).flatMap textL)) w2∧Below wc.heap.size wc w2):=⟨by simpa [Lib.strCells_eq]using hBA,hBel2⟩
  clear hIs hBA hb2 hBel2;go_wp2;go_loopw [34] (fun i wr=>∃j:Nat,j≤L∧i= .int .i64 j∧Hid (Lib.BuilderAt 123 5 wc.heap.size wc.heap.size (.pointer (some ⟨wc.heap.size,0,none⟩)) (Lib.byteCells (l0.data.toList++(xs.take j).flatMap textL)) wr∧Below wc.heap.size wc wr)) (fun i _=>L-(intOf i).toNat)
  case atStart=>exact⟨0,Nat.zero_le _,rfl,H2⟩
  case round=>
   obtain⟨j,hj,rfl,HJ⟩:=hrel;by_cases hlt:j<L
   ·obtain⟨x,hx⟩:∃x,xs[j]?=some x:=⟨xs[j]'(by rw[HL.out];exact hlt),List.getElem?_eq_getElem _⟩
    have hcell:=HTX.out wr HJ.out.2 j x hx;have hxs:=HX2.out x (List.mem_of_getElem? hx);have hzs:=sizedB_size hxs;have HX:=hide' hx;clear hx;go_wp2_with fail
    go_at_call 215;refine(sized_any' x _ (by omega)).mono ?_;rintro e w3 ⟨rfl,hw3⟩;subst hw3;have htz:(ByteArray.mk #[36]++sizedB x).size≤45:=by rw[ByteArray.size_append];have e:(ByteArray.mk #[36]).size=1:=rfl;omega
    go_wp2_with fail
    go_at_call 128;have hln:=HLen.out j;refine(Tryz.writeString wc.heap.size wc.heap.size (Lib.byteCells (l0.data.toList++(xs.take j).flatMap textL)) (ByteArray.mk #[36]++sizedB x) _ (.inr HJ.out.1) ?hl1 ?hl2).mono ?_;case hl1=>rw[Lib.byteCells_length,List.length_append,len_size];omega
    case hl2=>exact HJ.out.2.size
    rintro e w4 ⟨rfl,hBA,hb4⟩;have HN4:Hid (Lib.BuilderAt 123 5 wc.heap.size wc.heap.size (.pointer (some ⟨wc.heap.size,0,none⟩)) (Lib.byteCells (l0.data.toList++(xs.take (j+1)).flatMap textL)) w4∧Below wc.heap.size wc w4):=by
     refine⟨?_,HJ.out.2.trans hb4⟩;have e1:(xs.take (j+1)).flatMap textL=(xs.take j).flatMap textL++textL x:=by
      rw[List.take_add_one,HX.out,List.flatMap_append];simp
     rw[e1,←List.append_assoc];have e2:∀l m:List UInt8,Lib.byteCells (l++m)=Lib.byteCells l++Lib.byteCells m:=fun l m=>by simp[Lib.byteCells]
     rw[e2];exact hBA
    clear hBA hb4;go_wp2;go_roundw;case rel=>exact⟨j+1,by omega,by go_num,HN4⟩
    case measure=>simp[intOf];omega
   ·have hj2:j=L:=by omega
    subst hj2;have HF:Hid (Lib.BuilderAt 123 5 wc.heap.size wc.heap.size (.pointer (some ⟨wc.heap.size,0,none⟩)) (Lib.byteCells (listsAskL xs)) wr∧Below wc.heap.size wc wr):=by
     have:=HJ.out;rw[←HL.out,List.take_length]at this;rw[HSpec.out];exact this
    clear HJ;go_wp2_with fail
    go_at_call 57;refine(Tryz.Builder_String_any wc.heap.size wc.heap.size (listsAskL xs) _ (.inr HF.out.1) HF.out.2.size).mono ?_;rintro e w5 ⟨rfl,hb5⟩;have HE:Hid (Below w.heap.size w w5):=HB2.out.trans ((HF.out.2.trans hb5).mono hle);clear hb5;go_wp2;go_ret;exact⟨ret_str (by rw[HXS.out]),HE.out⟩
theorem lsAsk4 (b o c:Nat)(a0 a1 a2 a3:ByteArray)(val wd:ByteArray)(ft:Bool)(cid id:Int)(w:World)(R:Right 1 [a0,a1,a2,a3] val)(hb:b<w.heap.size)(hcap:4≤c)(c0:w.cell? ⟨b,o,none⟩=some (.string a0))(c1:w.cell? ⟨b,o+1,none⟩=some (.string a1))(c2:w.cell? ⟨b,o+2,none⟩=some (.string a2))(c3:w.cell? ⟨b,o+3,none⟩=some (.string a3)):Calls Tryz.prog 249 #[.agg #[],cmdV6 1 (.slice (some ⟨b,o,none⟩) 4 c) val wd ft cid,.int .i64 id] w fun e w'=>e= .returned (.string ⟨(listsAskL (nameB 1::[a0,a1,a2,a3])).toArray⟩)∧Below w.heap.size w w':=by
 unfold cmdV6;have HN:Hid (∀W:World,Calls Tryz.prog 213 #[.int .i64 1] W fun e w'=>e= .returned (.string (nameB 1))∧w'=W):=fun W=>nameOf_any 1 W R.kind
 have hNs:=nameB_size 1;have hks:=R.keys;have HK:=hide' hks;clear R hks;have hb1:b<w.heap.size+1:=by omega
 have hb2:b<w.heap.size+1+1:=by omega
 have hb3:b<w.heap.size+1+1+1:=by omega
 generalize hN:nameB 1=N at*;clear hN;go_enter Tryz.func249,Tryz.ntmps249;go_wp2;go_cut [7]from 8 (fun s7 W=>∃T cap,s7= .slice (some ⟨T,0,none⟩) 5 cap∧TextsAt W T cap [N,a0,a1,a2,a3]∧Below w.heap.size w W∧W.cell? ⟨w.heap.size+1,0,none⟩=some (.int .i64 1))
 case first=>
  go_region_held3 (fun w'=>w'.cell? ⟨w.heap.size+1,0,none⟩=some (.int .i64 1)∧w'.cell? ⟨w.heap.size+1,1,none⟩=some (.slice (some ⟨b,o,none⟩) 4 c)) (go_keep)
   (first|(go_at_call 213;refine(HN.out _).mono ?_;rintro e w4 ⟨rfl,rfl⟩))
  go_wp2_with fail
  go_meet
  case rel=>
   have hC:5≤(Question.appendCap 5 1 9).cut (w.tape (w.drawn+1) (Question.appendCap 5 1 9)):=Nat.le_add_right _ _;generalize (Question.appendCap 5 1 9).cut (w.tape (w.drawn+1) (Question.appendCap 5 1 9))=C at*;have hnew:=blkNew (((w.alloc (Obj.cells #[] 162)).alloc (Obj.cells #[Value.int IntKind.i64 1,Value.slice (some {block:=b,off:=o}) 4 c,Value.string val,Value.string wd,Value.bool ft,Value.int IntKind.i64 cid] 36)).alloc (Obj.cells #[Value.string N] 9)) (.cells (#[Value.string N]++(#[Value.string a0,Value.string a1,Value.string a2,Value.string a3]++Builtin.zeroCells #[Value.string {data:=#[]}] (C-5))) 9);have eZ:(#[Value.string N]++(#[Value.string a0,Value.string a1,Value.string a2,Value.string a3]++Builtin.zeroCells #[Value.string {data:=#[]}] (C-5)))=(#[Value.string N,Value.string a0,Value.string a1,Value.string a2,Value.string a3]++Builtin.zeroCells #[Value.string {data:=#[]}] (C-5)):=by rw[←Array.append_assoc];rfl
   rw[World.size_alloc,World.size_alloc,World.size_alloc]at hnew;refine⟨w.heap.size+1+1+1,C,rfl,⟨_,hnew,?_,by simpa using hC,?_⟩,?_,by go_simp⟩
   ·rw[eZ,Array.size_append,zeroLen];simp;omega
   ·intro i x hx;rw[eZ];have hi:i<5:=by simpa using(List.getElem?_eq_some_iff.1 hx).1
    rw[Array.getElem?_append_left (by simpa using hi)];have h2:i=0∨i=1∨i=2∨i=3∨i=4:=by omega
    rcases h2 with rfl|rfl|rfl|rfl|rfl<;>(simp at hx;subst hx;rfl)
   ·exact(((((Below.refl _ _).alloc (Nat.le_refl _) _).alloc (by simp) _).alloc (by simp;omega) _).alloc (by simp;omega) _).drew.drew
 case rest=>
  obtain⟨T2,cap2,rfl,hT2,hB2,q0⟩:=hcut;have hx2:∀x∈[N,a0,a1,a2,a3],x.size≤40:=by
   intro x hx;rw[List.mem_cons]at hx;rcases hx with rfl|hx
   ·omega
   ·have:=HK.out x hx;omega
  have hx1: [N,a0,a1,a2,a3].length≤6:=by simp
  have hx3: [N,a0,a1,a2,a3].length=5:=rfl;clear HN;generalize hXS: [N,a0,a1,a2,a3]=xs at*;have HXS:=hide' hXS;clear hXS;rw[←hx3];clear hx3;have HB2:=hide' hB2;have hle:w.heap.size≤wc.heap.size:=hB2.size;obtain⟨Z2,y1,y2,y3,y4⟩:=hT2;have lT2:=blkLt y1;have HTX:Hid (∀W,Below wc.heap.size wc W→∀(i:Nat) (x:ByteArray),xs[i]?=some x→W.cell? ⟨T2,i,none⟩=some (.string x)):=fun W hW i x hx=>(hW.cell (p:=⟨T2,i,none⟩) lT2).trans ((blkCell y1 i).trans (y4 i x hx))
  have HX2:=hide' hx2;clear y1 y4 hB2 hx2;generalize hL:xs.length=L at*;have HL:=hide' hL;clear hL;have dL:=dec100_size L;have hst:=starL_len L;have HSpec:Hid (listsAskL xs=(ByteArray.mk #[42]++dec100 L++ByteArray.mk #[10]).data.toList++xs.flatMap textL):=by show _=_;rw[←HL.out];rfl
  have HLen:Hid (∀j,((xs.take j).flatMap textL).length≤270):=by
   intro j;have h1:=textsL_len (xs.take j) (fun x hx=>HX2.out x (List.mem_of_mem_take hx));have h2:(xs.take j).length≤xs.length:=List.length_take_le' _ _;have h3:=HL.out;omega
  generalize hl0:(ByteArray.mk #[42]++dec100 L++ByteArray.mk #[10])=l0 at*;go_wp2_with fail
  go_at_call 122;refine(itoa_any L _ (by omega)).mono ?_;rintro e w1 ⟨rfl,hw1⟩;subst hw1;go_wp2_with fail
  go_at_call 128;have hIs:Lib.IsBuilder 123 5 wc.heap.size wc.heap.size [] (wc.alloc (Obj.cells #[Value.pointer none,Value.slice none 0 0] 123)):= .inl ⟨Nat.le_refl _,.slice none 0 0,blkNew wc _,World.ownsRow_nil _ _ _ _,by simp[Value.ownBlock]⟩;refine(Tryz.writeString wc.heap.size wc.heap.size [] l0 _ hIs (by simp;omega) (by simp)).mono ?_;rintro e w2 ⟨rfl,hBA,hb2⟩;have hBel2:Below wc.heap.size wc w2:=((Below.refl _ _).alloc (Nat.le_refl _) _).trans hb2;have H2:Hid (Lib.BuilderAt 123 5 wc.heap.size wc.heap.size (.pointer (some ⟨wc.heap.size,0,none⟩)) (Lib.byteCells (l0.data.toList++(xs.take 0).flatMap textL)) w2∧Below wc.heap.size wc w2):=⟨by simpa [Lib.strCells_eq]using hBA,hBel2⟩
  clear hIs hBA hb2 hBel2;go_wp2;go_loopw [34] (fun i wr=>∃j:Nat,j≤L∧i= .int .i64 j∧Hid (Lib.BuilderAt 123 5 wc.heap.size wc.heap.size (.pointer (some ⟨wc.heap.size,0,none⟩)) (Lib.byteCells (l0.data.toList++(xs.take j).flatMap textL)) wr∧Below wc.heap.size wc wr)) (fun i _=>L-(intOf i).toNat)
  case atStart=>exact⟨0,Nat.zero_le _,rfl,H2⟩
  case round=>
   obtain⟨j,hj,rfl,HJ⟩:=hrel;by_cases hlt:j<L
   ·obtain⟨x,hx⟩:∃x,xs[j]?=some x:=⟨xs[j]'(by rw[HL.out];exact hlt),List.getElem?_eq_getElem _⟩
    have hcell:=HTX.out wr HJ.out.2 j x hx;have hxs:=HX2.out x (List.mem_of_getElem? hx);have hzs:=sizedB_size hxs;have HX:=hide' hx;clear hx;go_wp2_with fail
    go_at_call 215;refine(sized_any' x _ (by omega)).mono ?_;rintro e w3 ⟨rfl,hw3⟩;subst hw3;have htz:(ByteArray.mk #[36]++sizedB x).size≤45:=by rw[ByteArray.size_append];have e:(ByteArray.mk #[36]).size=1:=rfl;omega
    go_wp2_with fail
    go_at_call 128;have hln:=HLen.out j;refine(Tryz.writeString wc.heap.size wc.heap.size (Lib.byteCells (l0.data.toList++(xs.take j).flatMap textL)) (ByteArray.mk #[36]++sizedB x) _ (.inr HJ.out.1) ?hl1 ?hl2).mono ?_;case hl1=>rw[Lib.byteCells_length,List.length_append,len_size];omega
    case hl2=>exact HJ.out.2.size
    rintro e w4 ⟨rfl,hBA,hb4⟩;have HN4:Hid (Lib.BuilderAt 123 5 wc.heap.size wc.heap.size (.pointer (some ⟨wc.heap.size,0,none⟩)) (Lib.byteCells (l0.data.toList++(xs.take (j+1)).flatMap textL)) w4∧Below wc.heap.size wc w4):=by
     refine⟨?_,HJ.out.2.trans hb4⟩;have e1:(xs.take (j+1)).flatMap textL=(xs.take j).flatMap textL++textL x:=by
      rw[List.take_add_one,HX.out,List.flatMap_append];simp
     rw[e1,←List.append_assoc];have e2:∀l m:List UInt8,Lib.byteCells (l++m)=Lib.byteCells l++Lib.byteCells m:=fun l m=>by simp[Lib.byteCells]
     rw[e2];exact hBA
    clear hBA hb4;go_wp2;go_roundw;case rel=>exact⟨j+1,by omega,by go_num,HN4⟩
    case measure=>simp[intOf];omega
   ·have hj2:j=L:=by omega
    subst hj2;have HF:Hid (Lib.BuilderAt 123 5 wc.heap.size wc.heap.size (.pointer (some ⟨wc.heap.size,0,none⟩)) (Lib.byteCells (listsAskL xs)) wr∧Below wc.heap.size wc wr):=by
     have:=HJ.out;rw[←HL.out,List.take_length]at this;rw[HSpec.out];exact this
    clear HJ;go_wp2_with fail
    go_at_call 57;refine(Tryz.Builder_String_any wc.heap.size wc.heap.size (listsAskL xs) _ (.inr HF.out.1) HF.out.2.size).mono ?_;rintro e w5 ⟨rfl,hb5⟩;have HE:Hid (Below w.heap.size w w5):=HB2.out.trans ((HF.out.2.trans hb5).mono hle);clear hb5;go_wp2;go_ret;exact⟨ret_str (by rw[HXS.out]),HE.out⟩
end Go.Proofs.YtlonjggfnleolaaGreatDoor
