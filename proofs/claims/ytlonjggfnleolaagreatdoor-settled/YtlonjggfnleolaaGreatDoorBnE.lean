import Derived.Test.YtlonjggfnleolaaGreatDoorAnK
import Derived.Test.YtlonjggfnleolaaGreatDoorJuZd
import Derived.Deep.AppendSrc
namespace Go.Proofs.YtlonjggfnleolaaGreatDoor
open Go.RowKit Go.Shelf
set_option linter.unusedVariables false
set_option maxHeartbeats 2000000
set_option maxRecDepth 100000
def downB:ByteArray:=⟨#[100,111,119,110]⟩
def refusedB:ByteArray:=⟨#[114,101,102,117,115,101,100]⟩
def ansOf (k:Int)(fa re y0:Bool)(yv vv:Value):Value:=
 if fa then ansV 5 (.slice none 0 0) (.slice none 0 0) downB else if re then ansV 5 (.slice none 0 0) (.slice none 0 0) refusedB
 else if k=1 then ansV 1 yv vv ⟨#[]⟩else if k=2 then ansV 2 (.slice none 0 0) (.slice none 0 0) ⟨#[]⟩
 else if y0 then ansV 3 (.slice none 0 0) (.slice none 0 0) ⟨#[]⟩else ansV 4 (.slice none 0 0) (.slice none 0 0) ⟨#[]⟩
theorem qanswer_any (q yb kn:Nat)(k:Int)(kv:Value)(val wd:ByteArray)(ft:Bool)(id n:Int)(fa re y0:Bool)(vv:Value)(w:World)(h:w.heap[q]?=some (quO k kv val wd ft id n fa re (.slice (some ⟨yb,0,none⟩) kn kn) vv))(hv:∃va vn vc,vv= .slice va vn vc)(hk:k=1∨k=2∨k=3)(hkn:0<kn)(hkm:kn≤1000)(hy:w.cell? ⟨yb,0,none⟩=some (.bool y0)):Calls Tryz.prog 129 #[.pointer (some ⟨q,0,none⟩)] w fun e w'=>e= .returned (ansOf k fa re y0 (.slice (some ⟨yb,0,none⟩) kn kn) vv)∧Below w.heap.size w w':=by
 obtain⟨va,vn,vc,rfl⟩:=hv;obtain⟨c0,_,c7,c8,c9,c10,_⟩:=quCells h;have hlt:=blkLt h;have hly:yb<w.heap.size:=World.block_lt_of_cell? w ⟨yb,0,none⟩ hy;have HB:Hid (∀x,Below w.heap.size w (w.alloc x)):=fun x=>(Below.refl _ _).alloc (Nat.le_refl _) x
 have hn1:¬q=w.heap.size:=by omega
 have hn2:¬yb=w.heap.size:=by omega
 have hkn':(0:Int)<(kn:Int):=by omega
 unfold ansOf ansV downB refusedB;clear h;rcases hk with rfl|rfl|rfl;all_goals cases fa
 all_goals cases re
 all_goals cases y0
 all_goals
  go_enter Tryz.func129,Tryz.ntmps129
  go_wp2
  first
   |go_region
    go_wp2
   |skip
  refine bodyPost_ret (v:=_) (by simp[results,Tryz.results129,go_sem];rfl) rfl ⟨by simp,?_⟩
  first|exact HB.out _|exact(HB.out _).drew
end Go.Proofs.YtlonjggfnleolaaGreatDoor
namespace Go.Proofs.YtlonjggfnleolaaGreatDoor
open Go.RowKit
set_option linter.unusedVariables false
set_option maxHeartbeats 4000000
set_option maxRecDepth 20000
theorem byteCells_append (l m:List UInt8):Lib.byteCells (l++m)=Lib.byteCells l++Lib.byteCells m:=by simp[Lib.byteCells]
theorem tellFound_any (a fa va:Option Addr)(n c fc vc:Nat)(ss:List ByteArray)(bs:List Bool)(vs:List ByteArray)(wd:ByteArray)(w:World)(hs:StrsIn w a n c ss)(hf:BoolsIn w fa n fc bs)(hv:StrsIn w va n vc vs)(hn:n≤4)(hk8:∀s∈ss,s.size≤8)(hv40:∀s∈vs,s.size≤40):Calls Tryz.prog 219 #[.slice a n c,ansV 1 (.slice fa n fc) (.slice va n vc) wd] w fun e w'=>e= .returned (.string (liFold (bs.zip (ss.zip vs))++⟨#[101,110,100,10]⟩))∧Below w.heap.size w w':=by
 have HB1:=hide' (show∀x,Below w.heap.size w (w.alloc x)from fun x=>(Below.refl _ _).alloc (Nat.le_refl _) _);have hc:=hs.cap;have hfc:=hf.cap;have hvc:=hv.cap;have HSx:=hide' (fun W (h:Below w.heap.size w W)=>(hs.later h).at);have HFx:=hide' (fun W (h:Below w.heap.size w W)=>(hf.later h).at);have HVx:=hide' (fun W (h:Below w.heap.size w W)=>(hv.later h).at);have HSL:=hide' hs.len;have HFL:=hide' hf.len;have HVL:=hide' hv.len;have HK8:=hide' hk8;have HV40:=hide' hv40;have hts:∀j:Nat,(liFold ((bs.zip (ss.zip vs)).take j)).size≤236:=fun j=>by
  have h1:=liFoldA_size ⟨#[]⟩ ((bs.zip (ss.zip vs)).take j) (fun p hp=>by
   have hp:=List.mem_of_mem_take hp;have h2:=(List.of_mem_zip hp).2;exact⟨hk8 _ (List.of_mem_zip h2).1,hv40 _ (List.of_mem_zip h2).2⟩)
  have h2:((bs.zip (ss.zip vs)).take j).length≤4:=by simp[hs.len,hf.len,hv.len];omega
  have e0:(ByteArray.mk #[]).size=0:=rfl;unfold liFold;omega
 have HTS:=hide' hts;clear hs hf hv hk8 hv40 hts;have HZ:Hid (∀(j:Nat) f k v,bs[j]?=some f→ss[j]?=some k→vs[j]?=some v→(bs.zip (ss.zip vs))[j]?=some (f,k,v)):=fun j f k v a b c=>by
  rw[List.getElem?_zip_eq_some];exact⟨a,by rw[List.getElem?_zip_eq_some];exact⟨b,c⟩⟩
 have HTL:Hid ((bs.zip (ss.zip vs)).take n=bs.zip (ss.zip vs)):=List.take_of_length_le (by simp;have:=HFL.out;omega);generalize bs.zip (ss.zip vs)=ts at*;unfold ansV at*;have HI:Hid (∀W:World,Lib.IsBuilder 123 5 W.heap.size W.heap.size [] (W.alloc (Obj.cells #[Value.pointer none,Value.slice none 0 0] 123))):=fun W=> .inl ⟨Nat.le_refl _,.slice none 0 0,blkNew W _,World.ownsRow_nil _ _ _ _,by simp[Value.ownBlock]⟩
 go_enter Tryz.func219,Tryz.ntmps219;go_wp2;have H0:Hid (Lib.IsBuilder 123 5 (w.heap.size+1) (w.heap.size+1) (Lib.byteCells (liFold (ts.take 0)).data.toList) ((w.alloc (.cells #[.int .i64 1,.slice fa n fc,.slice va n vc,.string wd] 91)).alloc (Obj.cells #[Value.pointer none,Value.slice none 0 0] 123))∧Below (w.heap.size+1) (w.alloc (.cells #[.int .i64 1,.slice fa n fc,.slice va n vc,.string wd] 91)) ((w.alloc (.cells #[.int .i64 1,.slice fa n fc,.slice va n vc,.string wd] 91)).alloc (Obj.cells #[Value.pointer none,Value.slice none 0 0] 123))):=by
  have h1:=HI.out (w.alloc (.cells #[.int .i64 1,.slice fa n fc,.slice va n vc,.string wd] 91));rw[World.size_alloc]at h1;exact⟨h1,(Below.refl _ _).alloc (by simp) _⟩
 go_loopw [10] (fun i wr=>∃j:Nat,j≤n∧i= .int .i64 j∧Hid (Lib.IsBuilder 123 5 (w.heap.size+1) (w.heap.size+1) (Lib.byteCells (liFold (ts.take j)).data.toList) wr∧Below (w.heap.size+1) (w.alloc (.cells #[.int .i64 1,.slice fa n fc,.slice va n vc,.string wd] 91)) wr)) (fun i _=>n-(intOf i).toNat)
 case atStart=>exact⟨0,Nat.zero_le _,rfl,H0⟩
 case round=>
  obtain⟨j,hj,rfl,HJ⟩:=hrel;have HBW:Hid (Below w.heap.size w wr):=(HB1.out _).trans (HJ.out.2.mono (by omega));have hsz:w.heap.size+1≤wr.heap.size:=by have:=HJ.out.2.size;simpa using this
  have hsz':w.heap.size<wr.heap.size:=by omega
  by_cases hlt:j<n
  ·obtain⟨k,hk⟩:∃x,ss[j]?=some x:=⟨ss[j]'(by rw[HSL.out];exact hlt),List.getElem?_eq_getElem _⟩
   obtain⟨f,hf⟩:∃x,bs[j]?=some x:=⟨bs[j]'(by rw[HFL.out];exact hlt),List.getElem?_eq_getElem _⟩
   obtain⟨x,hx⟩:∃x,vs[j]?=some x:=⟨vs[j]'(by rw[HVL.out];exact hlt),List.getElem?_eq_getElem _⟩
   have HX:=hide' (liFold_step (HZ.out j f k x hf hk hx));have hm:=HK8.out k (List.mem_of_getElem? hk);have hx40:=HV40.out x (List.mem_of_getElem? hx);obtain⟨kb,ko,rfl,hkb,hkc⟩:=HSx.out wr HBW.out j k hk;obtain⟨fb,fo,rfl,hfb,hfcc⟩:=HFx.out wr HBW.out j f hf;obtain⟨vb,vo,rfl,hvb,hvcc⟩:=HVx.out wr HBW.out j x hx;have q1:wr.cell? ⟨w.heap.size,1,none⟩=some (.slice (some ⟨fb,fo,none⟩) n fc):=by
    rw[HJ.out.2.cell (p:=⟨w.heap.size,1,none⟩) (by simp)];go_simp
   have q2:wr.cell? ⟨w.heap.size,2,none⟩=some (.slice (some ⟨vb,vo,none⟩) n vc):=by
    rw[HJ.out.2.cell (p:=⟨w.heap.size,2,none⟩) (by simp)];go_simp
   clear hk hf hx HSx HFx HVx HZ;have hzs:=sizedB_size hx40;have hln:=HTS.out j;have hl5:(liFold (ts.take j)).data.toList.length≤236:=by rw[len_size];exact hln
   cases f with
   |true=>
    have hvz:(ByteArray.mk #[118,97,108,117,101,32]++k++ByteArray.mk #[32]++sizedB x).size≤59:=valB_size (p:=(true,k,x)) hm hx40;have HY:Hid (Lib.byteCells (liFold (ts.take j)).data.toList++Lib.strCells (ByteArray.mk #[118,97,108,117,101,32]++k++ByteArray.mk #[32]++sizedB x)=Lib.byteCells (liFold (ts.take (j+1))).data.toList):=by
     show _=_;rw[HX.out,Lib.strCells_eq,←byteCells_append];congr 1
    clear HX;have g1:¬9223372036854775807<6+k.size:=by omega
    have g2:¬9223372036854775807<6+k.size+1:=by omega
    have g3:¬9223372036854775807<6+k.size+1+(sizedB x).size:=by omega
    go_wp2_with fail
    go_at_call 215;refine(sized_any' x _ (by omega)).mono ?_;rintro e w3 ⟨rfl,hw3⟩;subst hw3;go_wp2_with fail
    go_at_call 128;generalize (ByteArray.mk #[118,97,108,117,101,32]++k++ByteArray.mk #[32]++sizedB x)=V at*;refine(Tryz.writeString (w.heap.size+1) (w.heap.size+1) _ V _ HJ.out.1 ?hl1 ?hl2).mono ?_;case hl1=>rw[Lib.byteCells_length];omega
    case hl2=>exact hsz
    rintro e w4 ⟨rfl,hBA,hb4⟩;rw[HY.out]at hBA;have HN4:Hid (Lib.IsBuilder 123 5 (w.heap.size+1) (w.heap.size+1) (Lib.byteCells (liFold (ts.take (j+1))).data.toList) w4∧Below (w.heap.size+1) (w.alloc (.cells #[.int .i64 1,.slice (some ⟨fb,fo,none⟩) n fc,.slice (some ⟨vb,vo,none⟩) n vc,.string wd] 91)) w4):=⟨.inr hBA,HJ.out.2.trans hb4⟩
    clear hBA hb4;go_wp2;go_roundw;case rel=>exact⟨j+1,by omega,by go_num,HN4⟩
    case measure=>simp[intOf];omega
   |false=>
    have HN4:Hid (Lib.IsBuilder 123 5 (w.heap.size+1) (w.heap.size+1) (Lib.byteCells (liFold (ts.take (j+1))).data.toList) wr∧Below (w.heap.size+1) (w.alloc (.cells #[.int .i64 1,.slice (some ⟨fb,fo,none⟩) n fc,.slice (some ⟨vb,vo,none⟩) n vc,.string wd] 91)) wr):=by
     have e:liFold (ts.take (j+1))=liFold (ts.take j):=by rw[HX.out];apply ba_ext;simp[valB]
     rw[e];exact HJ.out
    clear HX;go_wp2;go_roundw;case rel=>exact⟨j+1,by omega,by go_num,HN4⟩
    case measure=>simp[intOf];omega
  ·have hj2:j=n:=by omega
   subst hj2;have hln:=HTS.out j;have HR:=hide' (show ByteArray.mk (liFold (ts.take j)).data.toList.toArray++⟨#[101,110,100,10]⟩=liFold ts++⟨#[101,110,100,10]⟩by rw[HTL.out]);have hz6:(ByteArray.mk (liFold (ts.take j)).data.toList.toArray).size≤236:=by simpa using hln
   go_wp2_with fail
   go_at_call 57;refine(Tryz.Builder_String_any (w.heap.size+1) (w.heap.size+1) _ _ HJ.out.1 hsz).mono ?_;rintro e w5 ⟨rfl,hb5⟩;have HE:Hid (Below w.heap.size w w5):=HBW.out.trans (hb5.mono (by omega));clear hb5;generalize ByteArray.mk (liFold (ts.take j)).data.toList.toArray=S at*;go_wp2;go_ret;exact⟨ret_str HR.out,HE.out⟩
set_option maxHeartbeats 4000000
set_option maxRecDepth 20000
theorem tellTexts_one (fa va:Option Addr)(n fc vc:Nat)(bs:List Bool)(vs:List ByteArray)(wd:ByteArray)(w:World)(hf:BoolsIn w fa n fc bs)(hv:StrsIn w va n vc vs)(hn:n≤4)(h1:n=1)(hv40:∀s∈vs,s.size≤40):Calls Tryz.prog 257 #[ansV 1 (.slice fa n fc) (.slice va n vc) wd] w fun e w'=>e= .returned (.string (lsVals n (bs.zip vs)))∧Below w.heap.size w w':=by
 have HB1:=hide' (show∀x,Below w.heap.size w (w.alloc x)from fun x=>(Below.refl _ _).alloc (Nat.le_refl _) _);have hfc:=hf.cap;have hvc:=hv.cap;have HFx:=hide' (fun W (h:Below w.heap.size w W)=>(hf.later h).at);have HVx:=hide' (fun W (h:Below w.heap.size w W)=>(hv.later h).at);have HFL:=hide' hf.len;have HVL:=hide' hv.len;have HV40:=hide' hv40;have hts:∀j:Nat,(lsFold ((bs.zip vs).take j)).size≤180:=fun j=>by
  have h1:=lsFoldA_size ⟨#[]⟩ ((bs.zip vs).take j) (fun p hp=>hv40 _ (List.of_mem_zip (List.mem_of_mem_take hp)).2);have h2:((bs.zip vs).take j).length≤4:=by simp[hf.len,hv.len];omega
  have e0:(ByteArray.mk #[]).size=0:=rfl;unfold lsFold;omega
 have HTS:=hide' hts;clear hf hv hv40 hts;have HZ:Hid (∀(j:Nat) f v,bs[j]?=some f→vs[j]?=some v→(bs.zip vs)[j]?=some (f,v)):=fun j f v a c=>by
  rw[List.getElem?_zip_eq_some];exact⟨a,c⟩
 have HTL:Hid ((bs.zip vs).take n=bs.zip vs):=List.take_of_length_le (by simp;have:=HFL.out;omega);generalize bs.zip vs=ts at*;unfold ansV at*;have HI:Hid (∀W:World,Lib.IsBuilder 123 5 W.heap.size W.heap.size [] (W.alloc (Obj.cells #[Value.pointer none,Value.slice none 0 0] 123))):=fun W=> .inl ⟨Nat.le_refl _,.slice none 0 0,blkNew W _,World.ownsRow_nil _ _ _ _,by simp[Value.ownBlock]⟩
 have HI1:Hid (Lib.IsBuilder 123 5 (w.heap.size+1) (w.heap.size+1) [] ((w.alloc (.cells #[.int .i64 1,.slice fa n fc,.slice va n vc,.string wd] 91)).alloc (Obj.cells #[Value.pointer none,Value.slice none 0 0] 123))∧Below (w.heap.size+1) (w.alloc (.cells #[.int .i64 1,.slice fa n fc,.slice va n vc,.string wd] 91)) ((w.alloc (.cells #[.int .i64 1,.slice fa n fc,.slice va n vc,.string wd] 91)).alloc (Obj.cells #[Value.pointer none,Value.slice none 0 0] 123))):=by
  have h1:=HI.out (w.alloc (.cells #[.int .i64 1,.slice fa n fc,.slice va n vc,.string wd] 91));rw[World.size_alloc]at h1;exact⟨h1,(Below.refl _ _).alloc (by simp) _⟩
 clear HI;subst h1;go_enter Tryz.func257,Tryz.ntmps257;go_wp2;have H0:Hid (Lib.IsBuilder 123 5 (w.heap.size+1) (w.heap.size+1) (Lib.byteCells ([]++(lsFold (ts.take 0)).data.toList)) ((w.alloc (.cells #[.int .i64 1,.slice fa 1 fc,.slice va 1 vc,.string wd] 91)).alloc (Obj.cells #[Value.pointer none,Value.slice none 0 0] 123))∧Below (w.heap.size+1) (w.alloc (.cells #[.int .i64 1,.slice fa 1 fc,.slice va 1 vc,.string wd] 91)) ((w.alloc (.cells #[.int .i64 1,.slice fa 1 fc,.slice va 1 vc,.string wd] 91)).alloc (Obj.cells #[Value.pointer none,Value.slice none 0 0] 123))):=HI1.out;go_loopw [20] (fun i wr=>∃j:Nat,j≤1∧i= .int .i64 j∧Hid (Lib.IsBuilder 123 5 (w.heap.size+1) (w.heap.size+1) (Lib.byteCells ([]++(lsFold (ts.take j)).data.toList)) wr∧Below (w.heap.size+1) (w.alloc (.cells #[.int .i64 1,.slice fa 1 fc,.slice va 1 vc,.string wd] 91)) wr)) (fun i _=>1-(intOf i).toNat)
 case atStart=>exact⟨0,Nat.zero_le _,rfl,H0⟩
 case round=>
  obtain⟨j,hj,rfl,HJ⟩:=hrel;have HBW:Hid (Below w.heap.size w wr):=(HB1.out _).trans (HJ.out.2.mono (by omega));have hsz:w.heap.size+1≤wr.heap.size:=by have:=HJ.out.2.size;simpa using this
  have hsz':w.heap.size<wr.heap.size:=by omega
  by_cases hlt:j<1
  ·obtain⟨f,hf⟩:∃x,bs[j]?=some x:=⟨bs[j]'(by rw[HFL.out];exact hlt),List.getElem?_eq_getElem _⟩
   obtain⟨x,hx⟩:∃x,vs[j]?=some x:=⟨vs[j]'(by rw[HVL.out];exact hlt),List.getElem?_eq_getElem _⟩
   have HX:=hide' (lsFold_step (HZ.out j f x hf hx));have hx40:=HV40.out x (List.mem_of_getElem? hx);obtain⟨fb,fo,rfl,hfb,hfcc⟩:=HFx.out wr HBW.out j f hf;obtain⟨vb,vo,rfl,hvb,hvcc⟩:=HVx.out wr HBW.out j x hx;have q1:wr.cell? ⟨w.heap.size,1,none⟩=some (.slice (some ⟨fb,fo,none⟩) 1 fc):=by
    rw[HJ.out.2.cell (p:=⟨w.heap.size,1,none⟩) (by simp)];go_simp
   have q2:wr.cell? ⟨w.heap.size,2,none⟩=some (.slice (some ⟨vb,vo,none⟩) 1 vc):=by
    rw[HJ.out.2.cell (p:=⟨w.heap.size,2,none⟩) (by simp)];go_simp
   clear hf hx HFx HVx HZ;have hzs:=sizedB_size hx40;have hln:=HTS.out j;have hl5:(lsFold (ts.take j)).data.toList.length≤180:=by rw[len_size];exact hln
   cases f with
   |true=>
    have hvz:(ByteArray.mk #[36]++sizedB x).size≤45:=by rw[ByteArray.size_append];have e:(ByteArray.mk #[36]).size=1:=rfl;omega
    have HY:Hid (Lib.byteCells ([]++(lsFold (ts.take j)).data.toList)++Lib.strCells (ByteArray.mk #[36]++sizedB x)=Lib.byteCells ([]++(lsFold (ts.take (j+1))).data.toList)):=by
     show _=_;rw[HX.out,Lib.strCells_eq,←byteCells_append,List.append_assoc];congr 2
    clear HX;go_wp2_with fail
    go_at_call 215;refine(sized_any' x _ (by omega)).mono ?_;rintro e w3 ⟨rfl,hw3⟩;subst hw3;go_wp2_with fail
    go_at_call 128;generalize (ByteArray.mk #[36]++sizedB x)=V at*;refine(Tryz.writeString (w.heap.size+1) (w.heap.size+1) _ V _ HJ.out.1 ?hl1 ?hl2).mono ?_;case hl1=>rw[Lib.byteCells_length,List.length_append];simp only[List.length_nil];omega
    case hl2=>exact hsz
    rintro e w4 ⟨rfl,hBA,hb4⟩;rw[HY.out]at hBA;have HN4:Hid (Lib.IsBuilder 123 5 (w.heap.size+1) (w.heap.size+1) (Lib.byteCells ([]++(lsFold (ts.take (j+1))).data.toList)) w4∧Below (w.heap.size+1) (w.alloc (.cells #[.int .i64 1,.slice (some ⟨fb,fo,none⟩) 1 fc,.slice (some ⟨vb,vo,none⟩) 1 vc,.string wd] 91)) w4):=⟨.inr hBA,HJ.out.2.trans hb4⟩
    clear hBA hb4;go_wp2;go_roundw;case rel=>exact⟨j+1,by omega,by go_num,HN4⟩
    case measure=>simp[intOf];omega
   |false=>
    have HY:Hid (Lib.byteCells ([]++(lsFold (ts.take j)).data.toList)++Lib.strCells (ByteArray.mk #[36,45,49,10])=Lib.byteCells ([]++(lsFold (ts.take (j+1))).data.toList)):=by
     show _=_;rw[HX.out,Lib.strCells_eq,←byteCells_append,List.append_assoc];congr 2
    clear HX;go_wp2_with fail
    go_at_call 128;refine(Tryz.writeString (w.heap.size+1) (w.heap.size+1) _ (ByteArray.mk #[36,45,49,10]) _ HJ.out.1 ?hl1 ?hl2).mono ?_;case hl1=>rw[Lib.byteCells_length,List.length_append];simp only[List.length_nil];have e:(ByteArray.mk #[36,45,49,10]).size=4:=rfl;omega
    case hl2=>exact hsz
    rintro e w4 ⟨rfl,hBA,hb4⟩;rw[HY.out]at hBA;have HN4:Hid (Lib.IsBuilder 123 5 (w.heap.size+1) (w.heap.size+1) (Lib.byteCells ([]++(lsFold (ts.take (j+1))).data.toList)) w4∧Below (w.heap.size+1) (w.alloc (.cells #[.int .i64 1,.slice (some ⟨fb,fo,none⟩) 1 fc,.slice (some ⟨vb,vo,none⟩) 1 vc,.string wd] 91)) w4):=⟨.inr hBA,HJ.out.2.trans hb4⟩
    clear hBA hb4;go_wp2;go_roundw;case rel=>exact⟨j+1,by omega,by go_num,HN4⟩
    case measure=>simp[intOf];omega
  ·have hj2:j=1:=by omega
   subst hj2;have HR:=hide' (show ByteArray.mk ([]++(lsFold (ts.take 1)).data.toList).toArray=lsVals 1 ts by rw[HTL.out];simp[lsVals]);go_wp2_with fail
   go_at_call 57;refine(Tryz.Builder_String_any (w.heap.size+1) (w.heap.size+1) _ _ HJ.out.1 hsz).mono ?_;rintro e w5 ⟨rfl,hb5⟩;have HE:Hid (Below w.heap.size w w5):=HBW.out.trans (hb5.mono (by omega));clear hb5;rw[HR.out];go_wp2;go_ret;exact⟨ret_str rfl,HE.out⟩
theorem tellTexts_more (fa va:Option Addr)(n fc vc:Nat)(bs:List Bool)(vs:List ByteArray)(wd:ByteArray)(w:World)(hf:BoolsIn w fa n fc bs)(hv:StrsIn w va n vc vs)(hn:n≤4)(h1:2≤n)(hv40:∀s∈vs,s.size≤40):Calls Tryz.prog 257 #[ansV 1 (.slice fa n fc) (.slice va n vc) wd] w fun e w'=>e= .returned (.string (lsVals n (bs.zip vs)))∧Below w.heap.size w w':=by
 have HB1:=hide' (show∀x,Below w.heap.size w (w.alloc x)from fun x=>(Below.refl _ _).alloc (Nat.le_refl _) _);have hfc:=hf.cap;have hvc:=hv.cap;have HFx:=hide' (fun W (h:Below w.heap.size w W)=>(hf.later h).at);have HVx:=hide' (fun W (h:Below w.heap.size w W)=>(hv.later h).at);have HFL:=hide' hf.len;have HVL:=hide' hv.len;have HV40:=hide' hv40;have hts:∀j:Nat,(lsFold ((bs.zip vs).take j)).size≤180:=fun j=>by
  have h1:=lsFoldA_size ⟨#[]⟩ ((bs.zip vs).take j) (fun p hp=>hv40 _ (List.of_mem_zip (List.mem_of_mem_take hp)).2);have h2:((bs.zip vs).take j).length≤4:=by simp[hf.len,hv.len];omega
  have e0:(ByteArray.mk #[]).size=0:=rfl;unfold lsFold;omega
 have HTS:=hide' hts;clear hf hv hv40 hts;have HZ:Hid (∀(j:Nat) f v,bs[j]?=some f→vs[j]?=some v→(bs.zip vs)[j]?=some (f,v)):=fun j f v a c=>by
  rw[List.getElem?_zip_eq_some];exact⟨a,c⟩
 have HTL:Hid ((bs.zip vs).take n=bs.zip vs):=List.take_of_length_le (by simp;have:=HFL.out;omega);generalize bs.zip vs=ts at*;unfold ansV at*;have HI:Hid (∀W:World,Lib.IsBuilder 123 5 W.heap.size W.heap.size [] (W.alloc (Obj.cells #[Value.pointer none,Value.slice none 0 0] 123))):=fun W=> .inl ⟨Nat.le_refl _,.slice none 0 0,blkNew W _,World.ownsRow_nil _ _ _ _,by simp[Value.ownBlock]⟩
 have HI1:Hid (Lib.IsBuilder 123 5 (w.heap.size+1) (w.heap.size+1) [] ((w.alloc (.cells #[.int .i64 1,.slice fa n fc,.slice va n vc,.string wd] 91)).alloc (Obj.cells #[Value.pointer none,Value.slice none 0 0] 123))∧Below (w.heap.size+1) (w.alloc (.cells #[.int .i64 1,.slice fa n fc,.slice va n vc,.string wd] 91)) ((w.alloc (.cells #[.int .i64 1,.slice fa n fc,.slice va n vc,.string wd] 91)).alloc (Obj.cells #[Value.pointer none,Value.slice none 0 0] 123))):=by
  have h1:=HI.out (w.alloc (.cells #[.int .i64 1,.slice fa n fc,.slice va n vc,.string wd] 91));rw[World.size_alloc]at h1;exact⟨h1,(Below.refl _ _).alloc (by simp) _⟩
 clear HI;have h1':((n:Int)>1):=by omega
 have hst:=starL_len n;have dL:=dec100_size n;go_enter Tryz.func257,Tryz.ntmps257;go_wp2_with fail
 go_at_call 122;refine(itoa_any n _ (by omega)).mono ?_;rintro e w1 ⟨rfl,hw1⟩;subst hw1;generalize hl0:(ByteArray.mk #[42]++dec100 n++ByteArray.mk #[10])=l0 at*;go_wp2_with fail
 go_at_call 128;refine(Tryz.writeString (w.heap.size+1) (w.heap.size+1) [] l0 _ HI1.out.1 (by simp;omega) (by simp)).mono ?_;rintro e w2 ⟨rfl,hBA,hb2⟩;have H0:Hid (Lib.IsBuilder 123 5 (w.heap.size+1) (w.heap.size+1) (Lib.byteCells (l0.data.toList++(lsFold (ts.take 0)).data.toList)) w2∧Below (w.heap.size+1) (w.alloc (.cells #[.int .i64 1,.slice fa n fc,.slice va n vc,.string wd] 91)) w2):=⟨.inr (by simpa [Lib.strCells_eq,lsFold]using hBA),HI1.out.2.trans hb2⟩
 clear hBA hb2;have qz:w2.cell? ⟨w.heap.size,1,none⟩=some (.slice fa n fc):=by
  rw[H0.out.2.cell (p:=⟨w.heap.size,1,none⟩) (by simp)];go_simp
 have hs2:w.heap.size<w2.heap.size:=by have:=H0.out.2.size;simp at this;omega
 have hl4:l0.data.toList.length≤4:=by rw[len_size];omega
 go_wp2;go_loopw [20] (fun i wr=>∃j:Nat,j≤n∧i= .int .i64 j∧Hid (Lib.IsBuilder 123 5 (w.heap.size+1) (w.heap.size+1) (Lib.byteCells (l0.data.toList++(lsFold (ts.take j)).data.toList)) wr∧Below (w.heap.size+1) (w.alloc (.cells #[.int .i64 1,.slice fa n fc,.slice va n vc,.string wd] 91)) wr)) (fun i _=>n-(intOf i).toNat)
 case atStart=>exact⟨0,Nat.zero_le _,rfl,H0⟩
 case round=>
  obtain⟨j,hj,rfl,HJ⟩:=hrel;have HBW:Hid (Below w.heap.size w wr):=(HB1.out _).trans (HJ.out.2.mono (by omega));have hsz:w.heap.size+1≤wr.heap.size:=by have:=HJ.out.2.size;simpa using this
  have hsz':w.heap.size<wr.heap.size:=by omega
  by_cases hlt:j<n
  ·obtain⟨f,hf⟩:∃x,bs[j]?=some x:=⟨bs[j]'(by rw[HFL.out];exact hlt),List.getElem?_eq_getElem _⟩
   obtain⟨x,hx⟩:∃x,vs[j]?=some x:=⟨vs[j]'(by rw[HVL.out];exact hlt),List.getElem?_eq_getElem _⟩
   have HX:=hide' (lsFold_step (HZ.out j f x hf hx));have hx40:=HV40.out x (List.mem_of_getElem? hx);obtain⟨fb,fo,rfl,hfb,hfcc⟩:=HFx.out wr HBW.out j f hf;obtain⟨vb,vo,rfl,hvb,hvcc⟩:=HVx.out wr HBW.out j x hx;have q1:wr.cell? ⟨w.heap.size,1,none⟩=some (.slice (some ⟨fb,fo,none⟩) n fc):=by
    rw[HJ.out.2.cell (p:=⟨w.heap.size,1,none⟩) (by simp)];go_simp
   have q2:wr.cell? ⟨w.heap.size,2,none⟩=some (.slice (some ⟨vb,vo,none⟩) n vc):=by
    rw[HJ.out.2.cell (p:=⟨w.heap.size,2,none⟩) (by simp)];go_simp
   clear hf hx HFx HVx HZ;have hzs:=sizedB_size hx40;have hln:=HTS.out j;have hl5:(lsFold (ts.take j)).data.toList.length≤180:=by rw[len_size];exact hln
   cases f with
   |true=>
    have hvz:(ByteArray.mk #[36]++sizedB x).size≤45:=by rw[ByteArray.size_append];have e:(ByteArray.mk #[36]).size=1:=rfl;omega
    have HY:Hid (Lib.byteCells (l0.data.toList++(lsFold (ts.take j)).data.toList)++Lib.strCells (ByteArray.mk #[36]++sizedB x)=Lib.byteCells (l0.data.toList++(lsFold (ts.take (j+1))).data.toList)):=by
     show _=_;rw[HX.out,Lib.strCells_eq,←byteCells_append,List.append_assoc];congr 2
    clear HX;go_wp2_with fail
    go_at_call 215;refine(sized_any' x _ (by omega)).mono ?_;rintro e w3 ⟨rfl,hw3⟩;subst hw3;go_wp2_with fail
    go_at_call 128;generalize (ByteArray.mk #[36]++sizedB x)=V at*;refine(Tryz.writeString (w.heap.size+1) (w.heap.size+1) _ V _ HJ.out.1 ?hl1 ?hl2).mono ?_;case hl1=>rw[Lib.byteCells_length,List.length_append];omega
    case hl2=>exact hsz
    rintro e w4 ⟨rfl,hBA,hb4⟩;rw[HY.out]at hBA;have HN4:Hid (Lib.IsBuilder 123 5 (w.heap.size+1) (w.heap.size+1) (Lib.byteCells (l0.data.toList++(lsFold (ts.take (j+1))).data.toList)) w4∧Below (w.heap.size+1) (w.alloc (.cells #[.int .i64 1,.slice (some ⟨fb,fo,none⟩) n fc,.slice (some ⟨vb,vo,none⟩) n vc,.string wd] 91)) w4):=⟨.inr hBA,HJ.out.2.trans hb4⟩
    clear hBA hb4;go_wp2;go_roundw;case rel=>exact⟨j+1,by omega,by go_num,HN4⟩
    case measure=>simp[intOf];omega
   |false=>
    have HY:Hid (Lib.byteCells (l0.data.toList++(lsFold (ts.take j)).data.toList)++Lib.strCells (ByteArray.mk #[36,45,49,10])=Lib.byteCells (l0.data.toList++(lsFold (ts.take (j+1))).data.toList)):=by
     show _=_;rw[HX.out,Lib.strCells_eq,←byteCells_append,List.append_assoc];congr 2
    clear HX;go_wp2_with fail
    go_at_call 128;refine(Tryz.writeString (w.heap.size+1) (w.heap.size+1) _ (ByteArray.mk #[36,45,49,10]) _ HJ.out.1 ?hl1 ?hl2).mono ?_;case hl1=>rw[Lib.byteCells_length,List.length_append];have e:(ByteArray.mk #[36,45,49,10]).size=4:=rfl;omega
    case hl2=>exact hsz
    rintro e w4 ⟨rfl,hBA,hb4⟩;rw[HY.out]at hBA;have HN4:Hid (Lib.IsBuilder 123 5 (w.heap.size+1) (w.heap.size+1) (Lib.byteCells (l0.data.toList++(lsFold (ts.take (j+1))).data.toList)) w4∧Below (w.heap.size+1) (w.alloc (.cells #[.int .i64 1,.slice (some ⟨fb,fo,none⟩) n fc,.slice (some ⟨vb,vo,none⟩) n vc,.string wd] 91)) w4):=⟨.inr hBA,HJ.out.2.trans hb4⟩
    clear hBA hb4;go_wp2;go_roundw;case rel=>exact⟨j+1,by omega,by go_num,HN4⟩
    case measure=>simp[intOf];omega
  ·have hj2:j=n:=by omega
   subst hj2;have HR:=hide' (show ByteArray.mk (l0.data.toList++(lsFold (ts.take j)).data.toList).toArray=lsVals j ts by rw[HTL.out];rw[←hl0];unfold lsVals;rw[if_neg (by omega)];apply ba_ext;simp[List.append_assoc]);go_wp2_with fail
   go_at_call 57;refine(Tryz.Builder_String_any (w.heap.size+1) (w.heap.size+1) _ _ HJ.out.1 hsz).mono ?_;rintro e w5 ⟨rfl,hb5⟩;have HE:Hid (Below w.heap.size w w5):=HBW.out.trans (hb5.mono (by omega));clear hb5;rw[HR.out];go_wp2;go_ret;exact⟨ret_str rfl,HE.out⟩
set_option maxHeartbeats 1000000
set_option maxRecDepth 20000
variable {ck id:Int}{n fc:Nat}{w:World}{fa:Option Addr}
theorem liTell_found (a fa va:Option Addr)(n c fc vc:Nat)(ss:List ByteArray)(bs:List Bool)(vs:List ByteArray)(val cw:ByteArray)(ft:Bool)(cid:Int)(wd:ByteArray)(id:Int)(w:World)(hs:StrsIn w a n c ss)(hf:BoolsIn w fa n fc bs)(hv:StrsIn w va n vc vs)(hn:n≤4)(hk8:∀s∈ss,s.size≤8)(hv40:∀s∈vs,s.size≤40):Calls Tryz.prog 212 #[.agg #[],cmdV6 1 (.slice a n c) val cw ft cid,ansV 1 (.slice fa n fc) (.slice va n vc) wd,.int .i64 id] w fun e w'=>e= .returned (.string (liFold (bs.zip (ss.zip vs))++⟨#[101,110,100,10]⟩))∧Below w.heap.size w w':=by
 have HB3:=hide' (show∀x y z,Below w.heap.size w (((w.alloc x).alloc y).alloc z)from fun x y z=>(((Below.refl _ _).alloc (Nat.le_refl _) _).alloc (by simp) _).alloc (by simp;omega) _);have HC:=hide' (fun x y z=>tellFound_any a fa va n c fc vc ss bs vs wd _ (hs.later (HB3.out x y z)) (hf.later (HB3.out x y z)) (hv.later (HB3.out x y z)) hn hk8 hv40);clear hs hf hv hk8 hv40;generalize liFold (bs.zip (ss.zip vs))++⟨#[101,110,100,10]⟩=out at*;unfold cmdV6 ansV at*;go_enter Tryz.func212,Tryz.ntmps212;go_wp2_with fail
 go_at_call 219;refine(HC.out _ _ _).mono ?_;rintro e w1 ⟨rfl,hb1⟩;have H1:=hide' ((HB3.out _ _ _).trans (hb1.mono (by simp;omega)));clear hb1;go_wp2;go_ret;exact⟨rfl,H1.out⟩
theorem lsTell_found (ck:Int)(kv:Value)(fa va:Option Addr)(n fc vc:Nat)(bs:List Bool)(vs:List ByteArray)(val cw:ByteArray)(ft:Bool)(cid:Int)(wd:ByteArray)(id:Int)(w:World)(hf:BoolsIn w fa n fc bs)(hv:StrsIn w va n vc vs)(hn1:1≤n)(hn:n≤4)(hv40:∀s∈vs,s.size≤40):Calls Tryz.prog 252 #[.agg #[],cmdV6 ck kv val cw ft cid,ansV 1 (.slice fa n fc) (.slice va n vc) wd,.int .i64 id] w fun e w'=>e= .returned (.string (lsVals n (bs.zip vs)))∧Below w.heap.size w w':=by
 have HB3:=hide' (show∀x y z,Below w.heap.size w (((w.alloc x).alloc y).alloc z)from fun x y z=>(((Below.refl _ _).alloc (Nat.le_refl _) _).alloc (by simp) _).alloc (by simp;omega) _);have HC:Hid (∀x y z,Calls Tryz.prog 257 #[ansV 1 (.slice fa n fc) (.slice va n vc) wd] (((w.alloc x).alloc y).alloc z) fun e w'=>e= .returned (.string (lsVals n (bs.zip vs)))∧Below (((w.alloc x).alloc y).alloc z).heap.size (((w.alloc x).alloc y).alloc z) w'):=fun x y z=>by
  by_cases h1:n=1
  ·exact tellTexts_one fa va n fc vc bs vs wd _ (hf.later (HB3.out x y z)) (hv.later (HB3.out x y z)) hn h1 hv40
  ·exact tellTexts_more fa va n fc vc bs vs wd _ (hf.later (HB3.out x y z)) (hv.later (HB3.out x y z)) hn (by omega) hv40
 clear hf hv hv40;generalize lsVals n (bs.zip vs)=out at*;unfold cmdV6 ansV at*;go_enter Tryz.func252,Tryz.ntmps252;go_wp2_with fail
 go_at_call 257;refine(HC.out _ _ _).mono ?_;rintro e w1 ⟨rfl,hb1⟩;have H1:=hide' ((HB3.out _ _ _).trans (hb1.mono (by simp;omega)));clear hb1;go_wp2;go_ret;exact⟨rfl,H1.out⟩
def tellS (d ck ak:Int)(ss:List ByteArray)(bs:List Bool)(vs:List ByteArray)(wd:ByteArray)(id:Int):ByteArray:=
 if d=1 then(if ak=1 then liFold (bs.zip (ss.zip vs))++⟨#[101,110,100,10]⟩else liTellB ak wd)
 else if d=2 then(if ak=1 then headB 2 (bif bs.headD false then 0 else 1) 0 (vs.headD ⟨#[]⟩).size id++vs.headD ⟨#[]⟩else headB 2 (stB ak) 0 0 (tidB ck id))
 else(if ak=1 then lsVals ss.length (bs.zip vs)else lsTellB ak wd)
structure Found (ss:List ByteArray)(bs:List Bool)(vs:List ByteArray):Prop where
 bl:bs.length=ss.length
 vl:vs.length=ss.length
 l1:1≤ss.length
 l4:ss.length≤4
 k8:∀s∈ss,s.size≤8
 v40:∀s∈vs,s.size≤40
 ok:∀p∈bs.zip vs,findOk p=true
theorem answer_parts {ss:List ByteArray}{val:ByteArray}{ak:Int}{bs:List Bool}{vs:List ByteArray}{wd:ByteArray}(h:answerB ck ss val ak bs vs wd=true):(ak=1∧ck=1∧Found ss bs vs)∨(ak≠1∧(ak=2∨ak=3∨ak=4∨ak=5)∧(ak=5→wd.size≤8)):=by
 unfold answerB at h;rw[Bool.and_eq_true]at h;obtain⟨h1,h2⟩:=h;by_cases e1:ak=1
 ·subst e1;rw[if_pos rfl,Bool.and_eq_true,decide_eq_true_eq]at h2;obtain⟨rfl,h2⟩:=h2;left;refine⟨rfl,rfl,?_⟩;have R:=right_of (show cmdB 1 ss val=true by simpa using h1);unfold findsB at h2;rw[Bool.and_eq_true,Bool.and_eq_true,decide_eq_true_eq,decide_eq_true_eq]at h2;obtain⟨⟨h3,h4⟩,h5⟩:=h2;have h5:=List.all_eq_true.1 h5;refine⟨by omega,by omega,R.len1,R.len4,R.keys,?_,h5⟩;intro s hs;obtain⟨i,hi,rfl⟩:=List.mem_iff_getElem.1 hs;have hm:(bs[i]'(by omega),vs[i])∈bs.zip vs:=List.mem_iff_getElem.2 ⟨i,by simp;omega,by simp⟩;have:=h5 _ hm;unfold findOk at this;rw[Bool.and_eq_true,decide_eq_true_eq]at this;have:=this.1;simp only at this;omega
 ·right;rw[if_neg e1]at h2;refine⟨e1,?_⟩;by_cases e2:ak=2
  ·exact⟨.inl e2,fun h=>by omega⟩
  rw[if_neg e2]at h2;by_cases e3:ak=3∨ak=4
  ·exact⟨by omega,fun h=>by omega⟩
  rw[if_neg e3]at h2;by_cases e5:ak=5
  ·rw[if_pos e5]at h2;refine⟨by omega,fun _=>?_⟩;unfold wordB at h2;rw[Bool.and_eq_true]at h2;have:=h2.1;simp only[withinB,Bool.and_eq_true,decide_eq_true_eq]at this;omega
  ·rw[if_neg e5]at h2;cases h2
theorem frSay_id (h:frSayB ck n id=true):0≤id∧id≤65535∧(ck=1→n≤1):=by
 unfold frSayB at h;simp at h;refine⟨by omega,by omega,fun h1=>?_⟩;omega
theorem say2:sayB 2 ck n id=frSayB ck n id:=by
 unfold sayB dialB;simp
theorem list1 {α:Type}{l:List α}(h:l.length=1):∃x,l=[x]:=by
 match l,h with
 | [x],_=>exact⟨x,rfl⟩
theorem one_bools {f:Bool}(h:BoolsIn w fa n fc [f]):n=1∧1≤fc∧∃b o,fa=some ⟨b,o,none⟩∧b<w.heap.size∧w.cell? ⟨b,o,none⟩=some (.bool f):=by
 have hl:=h.len;have hc:=h.cap;simp at hl;subst hl;obtain⟨b,o,h1,h2,h3⟩:=h.at 0 f rfl;exact⟨rfl,hc,b,o,h1,h2,h3⟩
theorem one_strs {f:ByteArray}(h:StrsIn w fa n fc [f]):n=1∧1≤fc∧∃b o,fa=some ⟨b,o,none⟩∧b<w.heap.size∧w.cell? ⟨b,o,none⟩=some (.string f):=by
 have hl:=h.len;have hc:=h.cap;simp at hl;subst hl;obtain⟨b,o,h1,h2,h3⟩:=h.at 0 f rfl;exact⟨rfl,hc,b,o,h1,h2,h3⟩
theorem tell_any (d ck:Int)(a:Option Addr)(n c:Nat)(ss:List ByteArray)(val cw:ByteArray)(ft:Bool)(cid:Int)(ak:Int)(fa va:Option Addr)(fn fc vn vc:Nat)(bs:List Bool)(vs:List ByteArray)(wd:ByteArray)(id:Int)(w:World)(hs:StrsIn w a n c ss)(hval:val.size≤maxLen)(hf:BoolsIn w fa fn fc bs)(hv:StrsIn w va vn vc vs)(hw:wd.size≤maxLen):Calls Tryz.prog 87 #[.int .i64 d,cmdV6 ck (.slice a n c) val cw ft cid,ansV ak (.slice fa fn fc) (.slice va vn vc) wd,.int .i64 id] w fun e w'=>e= .returned (saidV (answerB ck ss val ak bs vs wd&&sayB d ck n id) (tellS d ck ak ss bs vs wd id))∧Below w.heap.size w w':=by
 have hsl:=hs.len;have hfl:=hf.len;have hvl:=hv.len;by_cases g1:d=1
 ·subst g1;rcases hcb:answerB ck ss val ak bs vs wd with _|_
  ·exact tell_bad1 ck a n c ss val cw ft cid ak fa va fn fc vn vc bs vs wd id w hs hval hf hv hw hcb
  ·refine tell_good1 ck a n c ss val cw ft cid ak fa va fn fc vn vc bs vs wd id w hs hval hf hv hw hcb (tellS 1 ck ak ss bs vs wd id) fun W hB=>?_
   rcases answer_parts hcb with⟨rfl,rfl,F⟩|⟨h1,hk,h5⟩
   ·obtain rfl:fn=n:=by rw[←hfl,←hsl];exact F.bl
    obtain rfl:vn=fn:=by rw[←hvl,←hsl];exact F.vl
    exact liTell_found a fa va _ c fc vc ss bs vs val cw ft cid wd id W (hs.later hB) (hf.later hB) (hv.later hB) (by rw[←hsl];exact F.l4) F.k8 F.v40
   ·have e:tellS 1 ck ak ss bs vs wd id=liTellB ak wd:=by unfold tellS;rw[if_pos rfl,if_neg h1]
    rw[e];exact liTell_plain ck _ val cw ft cid ak _ _ wd id W hk h5
 by_cases g2:d=2
 ·subst g2;rcases hcb:answerB ck ss val ak bs vs wd with _|_
  ·exact tell_bad2 ck a n c ss val cw ft cid ak fa va fn fc vn vc bs vs wd id w hs hval hf hv hw hcb
  ·rw[say2];rcases hcan:frSayB ck n id with _|_
   ·exact tell_nosay2 ck a n c ss val cw ft cid ak fa va fn fc vn vc bs vs wd id w hs hval hf hv hw hcb hcan
   ·obtain⟨i0,i1,hone⟩:=frSay_id hcan;refine tell_good2 ck a n c ss val cw ft cid ak fa va fn fc vn vc bs vs wd id w hs hval hf hv hw hcb hcan (tellS 2 ck ak ss bs vs wd id) fun W hB=>?_
    rcases answer_parts hcb with⟨rfl,rfl,F⟩|⟨h1,hk,h5⟩
    ·have hn1:ss.length=1:=by have:=hone rfl;have:=F.l1;omega
     obtain⟨f,rfl⟩:=list1 (F.bl.trans hn1);obtain⟨x,rfl⟩:=list1 (F.vl.trans hn1);obtain⟨rfl,hfc,fb,fo,rfl,hfb,hfcell⟩:=one_bools (hf.later hB);obtain⟨rfl,hvc,vb,vo,rfl,hvb,hvcell⟩:=one_strs (hv.later hB);have hx:=F.v40 x (by simp);exact frTell_found _ val cw ft cid f x fb fo fc vb vo vc wd id W i0 i1 hx hfc hvc hfb hvb hfcell hvcell
    ·have e:tellS 2 ck ak ss bs vs wd id=headB 2 (stB ak) 0 0 (tidB ck id):=by unfold tellS;rw[if_neg (by decide),if_pos rfl,if_neg h1]
     rw[e];exact frTell_plain ck _ val cw ft cid ak _ _ wd id W h1 i0 i1
 by_cases g3:d=3
 ·subst g3;rcases hcb:answerB ck ss val ak bs vs wd with _|_
  ·exact tell_bad3 ck a n c ss val cw ft cid ak fa va fn fc vn vc bs vs wd id w hs hval hf hv hw hcb
  ·refine tell_good3 ck a n c ss val cw ft cid ak fa va fn fc vn vc bs vs wd id w hs hval hf hv hw hcb (tellS 3 ck ak ss bs vs wd id) fun W hB=>?_
   rcases answer_parts hcb with⟨rfl,rfl,F⟩|⟨h1,hk,h5⟩
   ·obtain rfl:fn=n:=by rw[←hfl,←hsl];exact F.bl
    obtain rfl:vn=fn:=by rw[←hvl,←hsl];exact F.vl
    have e:tellS 3 1 1 ss bs vs wd id=lsVals vn (bs.zip vs):=by unfold tellS;rw[if_neg (by decide),if_neg (by decide),if_pos rfl,hsl]
    rw[e];exact lsTell_found 1 _ fa va _ fc vc bs vs val cw ft cid wd id W (hf.later hB) (hv.later hB) (by rw[←hsl];exact F.l1) (by rw[←hsl];exact F.l4) F.v40
   ·have e:tellS 3 ck ak ss bs vs wd id=lsTellB ak wd:=by unfold tellS;rw[if_neg (by decide),if_neg (by decide),if_neg h1]
    rw[e];exact lsTell_plain ck _ val cw ft cid ak _ _ wd id W hk h5
 have e:sayB d ck n id=false:=by unfold sayB dialB;simp[g1,g2,g3]
 rw[e,Bool.and_false];exact tell_nodial d ck _ val cw ft cid ak _ _ wd id w g1 g2 g3
end Go.Proofs.YtlonjggfnleolaaGreatDoor
namespace Go.Proofs.YtlonjggfnleolaaGreatDoor
open Go.RowKit Go.Shelf
set_option linter.unusedVariables false
variable {d:Int}{bs:List UInt8}{t:StepR}
theorem texts_let (ts:List ByteArray)(used:Nat):wordB (textsR ts used).c.word=true∨(textsR ts used).c.word=noB:=by
 unfold textsR;simp only
 generalize (if kindB (ts.getD 0 noB)=2 then(if(ts.drop 1).length=2 then(ts.drop 1).take 1 else [])else ts.drop 1)=keys;generalize (if kindB (ts.getD 0 noB)=2∧(ts.drop 1).length=2 then(ts.drop 1).getD 1 noB else noB)=val;generalize kindB (ts.getD 0 noB)=k;cases hc:cmdB k keys val with
 |true=>rw[if_pos rfl];exact .inr rfl
 |false=>rw[if_neg (by decide)];exact .inl (by show wordB dataB=true;decide)
theorem read_let (h:readR d bs=some t):wordB t.c.word=true∨t.c.word=noB:=by
 have w0:∀(b:ByteArray) (f:Bool),wordB b=true→wordB (wrongC b f).word=true∨(wrongC b f).word=noB:=fun b f hb=> .inl hb
 unfold readR at h;split at h
 ·unfold lnR at h;split at h
  ·unfold lineR at h;split at h
   ·unfold setR at h;split at h
    ·cases h;exact w0 _ _ (by decide)
    ·split at h
     ·cases h
     ·split at h
      ·cases h;exact w0 _ _ (by decide)
      ·cases h;exact .inr rfl
   ·split at h
    ·cases h;exact w0 _ _ (by decide)
    ·cases h;exact .inr rfl
  ·split at h
   ·cases h;exact w0 _ _ (by decide)
   ·cases h
 ·split at h
  ·unfold frR at h;split at h
   ·cases h
   ·split at h
    ·cases h;exact w0 _ _ (by decide)
    ·split at h
     ·cases h
     ·split at h
      ·cases h;exact w0 _ _ (by decide)
      ·cases h;exact .inr rfl
  ·unfold lsR at h;simp only at h;split at h
   ·cases h;exact w0 _ _ (by decide)
   ·split at h
    ·cases h
    ·cases h;exact texts_let _ _
structure WOk (d:Int)(c:Cmd):Prop where
 cm:CmdOk c
 ok:OkC d c
 wd:c.keys=[]→wordB c.word=true
theorem read_wOk (h:readR d bs=some t):WOk d t.c:=
 ⟨read_cmdOk h,read_ok h,fun hk=>by
  rcases read_let h with h1|h1
  ·exact h1
  ·rcases(read_ok h).or_ with⟨h2,_⟩|⟨_,_,_,h2⟩
   ·have:=(cmdB_in h2).2.1;rw[hk]at this;simp at this
   ·rw[h1]at h2;exact absurd h2 (by decide)⟩
variable {d k:Int}
structure PS where
 v:Option (Nat×Nat)⊕Option (Nat×ByteArray)
abbrev PS.un:PS:=⟨.inl none⟩
abbrev PS.op (o id:Nat):PS:=⟨.inl (some (o,id))⟩
abbrev PS.an (st:Nat)(v:ByteArray):PS:=⟨.inr (some (st,v))⟩
abbrev PS.fl:PS:=⟨.inr none⟩
theorem PS.el {m:PS→Prop}(un:m .un)(op:∀o id,m (.op o id))(an:∀st v,m (.an st v))(fl:m .fl)(p:PS):m p:=match p with|⟨.inl none⟩=>un|⟨.inl (some (a,b))⟩=>op a b|⟨.inr (some (a,b))⟩=>an a b|⟨.inr none⟩=>fl
def PS.opn:PS→Bool|⟨.inl none⟩=>true|⟨.inl (some (_,_))⟩=>true|_=>false
def PS.bad:PS→Bool|⟨.inr none⟩=>true|_=>false
def PS.ref:PS→Bool|⟨.inr (some (st,_))⟩=>decide (st=2)|_=>false
def PS.yes:PS→Bool|⟨.inr (some (st,_))⟩=>decide (st=0)|_=>false
def PS.val:PS→ByteArray|⟨.inr (some (_,v))⟩=>v|_=>⟨#[]⟩
structure QS where
 c:Cmd
 ps:List PS
def QS.n (x:QS):Nat:=x.ps.countP PS.opn
def QS.fa (x:QS):Bool:=x.ps.any PS.bad
def QS.re (x:QS):Bool:=x.ps.any PS.ref
def QS.ak (x:QS):Int:=if x.fa=true then 5 else if x.re=true then 5 else if x.c.kind=1 then 1 else if x.c.kind=2 then 2 else if(x.ps.map PS.yes).headD false=true then 3 else 4
def QS.wd (x:QS):ByteArray:=if x.fa=true then downB else if x.re=true then refusedB else⟨#[]⟩
def toldB (d:Int)(x:QS):ByteArray:=if x.c.keys=[]then wrongB d x.c else tellS d x.c.kind x.ak x.c.keys (x.ps.map PS.yes) (x.ps.map PS.val) x.wd x.c.id
def PSOk (k:Int):PS→Prop
 |⟨.inr (some (st,v))⟩=>st≤2∧v.size≤40∧(v.data.toList.isEmpty=true∨(k=1∧st=0))
 |_=>True
structure QSOk (d:Int)(x:QS):Prop where
 w:WOk d x.c
 len:x.ps.length=x.c.keys.length
 ps:∀p∈x.ps,PSOk x.c.kind p
theorem QSOk.right {x:QS}(h:QSOk d x)(hk:x.c.keys≠[]):cmdB x.c.kind x.c.keys x.c.val=true∧(d=2→x.c.keys.length=1):=by
 rcases h.w.ok.or_ with⟨h1,_,_,h2⟩|⟨_,h1,_⟩
 ·exact⟨h1,h2⟩
 ·exact absurd h1 hk
theorem val_size {p:PS}(h:PSOk k p):p.val.size≤40:=by
 cases p using PS.el with
 |an st v=>exact h.2.1
 |_=>exact Nat.zero_le _
theorem find_ok {p:PS}(h:PSOk k p):findOk (p.yes,p.val)=true:=by
 have hs:=val_size h;unfold findOk;rw[Bool.and_eq_true,decide_eq_true_eq];refine⟨by simp only;omega,?_⟩;cases p using PS.el with
 |an st v=>
  rcases h.2.2 with h1|⟨_,h1⟩
  ·simp[PS.val,h1]
  ·simp[PS.yes,h1]
 |_=>rfl
theorem QSOk.answer {x:QS}(h:QSOk d x)(hk:x.c.keys≠[]):answerB x.c.kind x.c.keys x.c.val x.ak (x.ps.map PS.yes) (x.ps.map PS.val) x.wd=true:=by
 obtain⟨h1,h2⟩:=h.right hk;have hkind:=(cmdB_in h1).1;have a5:∀wd,wordB wd=true→answerB x.c.kind x.c.keys x.c.val 5 (x.ps.map PS.yes) (x.ps.map PS.val) wd=true:=fun wd hw=>by
  unfold answerB;rw[h1,Bool.or_true,Bool.true_and,if_neg (by decide),if_neg (by decide),if_neg (by decide),if_pos rfl,hw]
 by_cases hf:x.fa=true
 ·have e1:x.ak=5:=by unfold QS.ak;rw[if_pos hf]
  have e2:x.wd=downB:=by unfold QS.wd;rw[if_pos hf]
  rw[e1,e2];exact a5 _ (by decide)
 ·by_cases hr:x.re=true
  ·have e1:x.ak=5:=by unfold QS.ak;rw[if_neg hf,if_pos hr]
   have e2:x.wd=refusedB:=by unfold QS.wd;rw[if_neg hf,if_pos hr]
   rw[e1,e2];exact a5 _ (by decide)
  ·rcases hkind with e|e|e
   ·have e1:x.ak=1:=by unfold QS.ak;rw[if_neg hf,if_neg hr,if_pos e]
    rw[e1];unfold answerB;rw[h1,Bool.or_true,Bool.true_and,if_pos rfl,e];unfold findsB;rw[Bool.and_eq_true,Bool.and_eq_true,Bool.and_eq_true,decide_eq_true_eq,decide_eq_true_eq,decide_eq_true_eq,List.all_eq_true];refine⟨rfl,⟨by rw[List.length_map,h.len],by rw[List.length_map,h.len]⟩,fun p hp=>?_⟩;rw[List.zip_map']at hp;obtain⟨y,hy,rfl⟩:=List.mem_map.1 hp;exact find_ok (h.ps y hy)
   ·have e1:x.ak=2:=by unfold QS.ak;rw[if_neg hf,if_neg hr,e];rfl
    rw[e1];unfold answerB;rw[h1,Bool.or_true,Bool.true_and,if_neg (by decide),if_pos rfl,e];rfl
   ·have e1:x.ak=3∨x.ak=4:=by
     unfold QS.ak;rw[if_neg hf,if_neg hr,e,if_neg (by decide),if_neg (by decide)];split<;>simp
    unfold answerB;rw[h1,Bool.or_true,Bool.true_and,if_neg (by omega),if_neg (by omega),if_pos e1,e];rfl
theorem QSOk.say (hd:d=1∨d=2∨d=3){x:QS}(h:QSOk d x)(hk:x.c.keys≠[]):sayB d x.c.kind x.c.keys.length x.c.id=true:=by
 have h1:=h.w.cm.id0;have h2:=h.w.cm.id1;unfold sayB dialB;rcases hd with rfl|rfl|rfl
 ·simp
 ·have h3:=(h.right hk).2 rfl;have h4:=(cmdB_in (h.right hk).1).1;unfold frSayB;rw[h3];simp;omega
 ·simp
end Go.Proofs.YtlonjggfnleolaaGreatDoor
namespace Go.Proofs.YtlonjggfnleolaaGreatDoor
open Go.RowKit Go.Shelf Go.Conc
set_option linter.unusedVariables false
variable {W W':World}{win g:Nat}{v:CliI}{s:CliS}
structure CorAt (W:World)(win:Nat)(v:CliI)(s:CliS):Prop where
 blk:W.heap[v.C]?=some (clO v.R v.ch v.wv v.bp v.bv)
 rd:RdrAt W v.R v.hb v.t s.st
 di:dT s.d v.t
 chan:∃buf a b tm,W.heap[v.ch]?=some (.chan win buf false a b tm)∧buf.size=s.waits.length
 row:W.ownsRow 0 175 1 v.wv s.waits.length (v.qs.map ptrV)
 ql:v.qs.length=s.waits.length
 bpv:v.bp= .pointer none∨v.bp= .pointer (some ⟨v.C,3,none⟩)
 bld:BldRow W v.bv s.told
 ab:∀b,v.bv.ownBlock=some b→v.hb≠some b
theorem CorAt.kind (h:CorAt W win v s):∀b∈v.foot,(∃Z T f,W.heap[b]?=some (.cells Z T f)∧(T=125∨T=134∨T=5∨T=175))∨∃cap buf cl a c tm,W.heap[b]?=some (.chan cap buf cl a c tm):=by
 intro b hb;unfold CliI.foot at hb;rcases List.mem_cons.1 hb with rfl|hb
 ·exact .inl ⟨_,_,_,h.blk,.inl rfl⟩
 rcases List.mem_cons.1 hb with rfl|hb
 ·obtain⟨buf,a,c,tm,h1,_⟩:=h.chan;exact .inr ⟨_,_,_,_,_,_,h1⟩
 rcases List.mem_cons.1 hb with rfl|hb
 ·obtain⟨Z,hZ⟩:=h.rd.dQ;exact .inl ⟨_,_,_,hZ,.inr (.inl rfl)⟩
 rcases List.mem_append.1 hb with hb|hb
 ·rcases List.mem_append.1 hb with hb|hb
  ·have hb':v.hb=some b:=by
    cases ho:v.hb with
    |none=>rw[ho]at hb;cases hb
    |some g=>rw[ho]at hb;simp at hb;rw[hb]
   have hr:=h.rd;rw[hb']at hr;obtain⟨Z,hZ⟩:=hr.hbQ;exact .inl ⟨_,_,_,hZ,.inr (.inr (.inl rfl))⟩
  ·obtain⟨cur,hc⟩:=ownsRow_blk h.row (mem_own hb);exact .inl ⟨_,_,_,hc,.inr (.inr (.inr rfl))⟩
 ·obtain⟨cur,fz,hc⟩:=h.bld.blk (mem_own hb);exact .inl ⟨_,_,_,hc,.inr (.inr (.inl rfl))⟩
theorem CorAt.old (h:CorAt W win v s):∀b∈v.foot,b<W.heap.size:=by
 intro b hb;rcases h.kind b hb with⟨Z,T,f,h1,_⟩|⟨cap,buf,cl,a,c,tm,h1⟩
 ·exact blkLt h1
 ·exact blkLt h1
theorem CorAt.apart (h:CorAt W win v s){b T:Nat}{Z:Array Value}{f:Nat×Nat}(hb:W.heap[b]?=some (.cells Z T f))(hT:T≠125∧T≠134∧T≠5∧T≠175):b∉v.foot:=by
 intro hm;rcases h.kind b hm with⟨Z',T',f',h1,h2⟩|⟨cap,buf,cl,a,c,tm,h1⟩
 ·rw[hb]at h1;simp at h1;obtain⟨_,rfl,_⟩:=h1;rcases h2 with h|h|h|h
  ·exact hT.1 h
  ·exact hT.2.1 h
  ·exact hT.2.2.1 h
  ·exact hT.2.2.2 h
 ·rw[hb]at h1;cases h1
theorem CorAt.keep (h:CorAt W win v s)(k:∀b∈v.foot,W'.heap[b]?=W.heap[b]?):CorAt W' win v s:=by
 obtain⟨buf,a,b,tm,c1,c2⟩:=h.chan;exact⟨(k _ (by simp[CliI.foot])).trans h.blk,h.rd.other (k _ (by simp[CliI.foot])) (fun b hb=>k b (by simp[CliI.foot,hb])),h.di,⟨buf,a,b,tm,(k _ (by simp[CliI.foot])).trans c1,c2⟩,ownsRow_other h.row (fun g hg=>k g (by simp[CliI.foot,hg])),h.ql,h.bpv,h.bld.other (fun g hg=>k g (by simp[CliI.foot,hg])),h.ab⟩
theorem CorAt.below (h:CorAt W win v s)(hb:Below W.heap.size W W'):CorAt W' win v s:=h.keep (fun b hm=>hb.block b (h.old b hm))
theorem CorAt.nC (h:CorAt W win v s):v.C≠v.ch∧v.C≠v.R∧v.hb≠some v.C∧v.wv.ownBlock≠some v.C∧v.bv.ownBlock≠some v.C:=by
 have hC:=h.blk;unfold clO at hC;obtain⟨buf,a,b,tm,c1,_⟩:=h.chan;obtain⟨Z,hZ⟩:=h.rd.dQ;refine⟨fun e=>?_,fun e=>?_,fun e=>?_,fun e=>?_,fun e=>?_⟩
 ·rw[←e,hC]at c1;cases c1
 ·rw[←e,hC]at hZ;cases hZ
 ·have hr:=h.rd;rw[e]at hr;obtain⟨Z',hZ'⟩:=hr.hbQ;rw[hC]at hZ';cases hZ'
 ·obtain⟨cur,hc⟩:=ownsRow_blk h.row e;rw[hC]at hc;cases hc
 ·obtain⟨cur,fz,hc⟩:=h.bld.blk e;rw[hC]at hc;cases hc
theorem CorAt.nB (h:CorAt W win v s)(hg:v.bv.ownBlock=some g):g≠v.ch∧g≠v.R∧v.hb≠some g∧v.wv.ownBlock≠some g:=by
 obtain⟨cur,fz,hc⟩:=h.bld.blk hg;obtain⟨buf,a,b,tm,c1,_⟩:=h.chan;obtain⟨Z,hZ⟩:=h.rd.dQ;refine⟨fun e=>?_,fun e=>?_,h.ab g hg,fun e=>?_⟩
 ·rw[←e,hc]at c1;cases c1
 ·rw[←e,hc]at hZ;cases hZ
 ·obtain⟨cur',hc'⟩:=ownsRow_blk h.row e;rw[hc]at hc';cases hc'
theorem CorAt.nW (h:CorAt W win v s)(hg:v.wv.ownBlock=some g):g≠v.ch∧g≠v.R∧v.hb≠some g∧v.bv.ownBlock≠some g:=by
 obtain⟨cur,hc⟩:=ownsRow_blk h.row hg;obtain⟨buf,a,b,tm,c1,_⟩:=h.chan;obtain⟨Z,hZ⟩:=h.rd.dQ;refine⟨fun e=>?_,fun e=>?_,fun e=>?_,fun e=>?_⟩
 ·rw[←e,hc]at c1;cases c1
 ·rw[←e,hc]at hZ;cases hZ
 ·have hr:=h.rd;rw[e]at hr;obtain⟨Z',hZ'⟩:=hr.hbQ;rw[hc]at hZ';cases hZ'
 ·obtain⟨cur',fz,hc'⟩:=h.bld.blk e;rw[hc]at hc';cases hc'
theorem CorAt.nCh (h:CorAt W win v s):v.ch≠v.R∧v.hb≠some v.ch∧v.wv.ownBlock≠some v.ch∧v.bv.ownBlock≠some v.ch:=by
 obtain⟨buf,a,b,tm,c1,_⟩:=h.chan;obtain⟨Z,hZ⟩:=h.rd.dQ;refine⟨fun e=>?_,fun e=>?_,fun e=>?_,fun e=>?_⟩
 ·rw[←e,c1]at hZ;cases hZ
 ·have hr:=h.rd;rw[e]at hr;obtain⟨Z',hZ'⟩:=hr.hbQ;rw[c1]at hZ';cases hZ'
 ·obtain⟨cur,hc⟩:=ownsRow_blk h.row e;rw[c1]at hc;cases hc
 ·obtain⟨cur,fz,hc⟩:=h.bld.blk e;rw[c1]at hc;cases hc
theorem CorAt.wrote (h:CorAt W win v s)(bv':Value)(told':List UInt8)(h1:W'.heap[v.C]?=some (clO v.R v.ch v.wv (.pointer (some ⟨v.C,3,none⟩)) bv'))(h2:BldRow W' bv' told')(h3:Chg (v.C::v.bv.ownBlock.toList) W W')(h4:bv'.ownBlock=v.bv.ownBlock∨∃g,bv'.ownBlock=some g∧W.heap.size≤g):CorAt W' win {v with bp:= .pointer (some ⟨v.C,3,none⟩),bv:=bv'} {s with told:=told'}∧Chg v.foot W W'∧Later W v.foot (CliI.foot {v with bp:= .pointer (some ⟨v.C,3,none⟩),bv:=bv'}):=by
 obtain⟨n1,n2,n3,n4,n5⟩:=h.nC;have hk:∀b∈v.foot,b≠v.C→v.bv.ownBlock≠some b→W'.heap[b]?=W.heap[b]?:=fun b hb hn hm=>h3.block b (h.old b hb) (fun hm'=>by
  rcases List.mem_cons.1 hm' with e|e
  ·exact hn e
  ·exact hm (optMem e))
 obtain⟨buf,a,b,tm,c1,c2⟩:=h.chan;have hch:=h.nCh;refine⟨⟨h1,h.rd.other (hk _ (by simp[CliI.foot]) (fun e=>n2 e.symm) (fun e=>(h.nB e).2.1 rfl)) (fun b hb=>hk b (by simp[CliI.foot,hb]) (fun e=>n3 (by rw[hb,e])) (fun e=>(h.nB e).2.2.1 hb)),h.di,⟨buf,a,b,tm,(hk _ (by simp[CliI.foot]) (fun e=>n1 e.symm) hch.2.2.2).trans c1,c2⟩,ownsRow_other h.row (fun g hg=>hk g (by simp[CliI.foot,hg]) (fun e=>n4 (by rw[hg,e])) (fun e=>(h.nB e).2.2.2 hg)),h.ql,.inr rfl,h2,fun b hb=>?_⟩,h3.more (fun x hx=>?_),fun b hb=>?_⟩
 ·rcases h4 with e|⟨g,e,hg⟩
  ·exact h.ab b (by rw[←e];exact hb)
  ·intro hb';have h5:=h.old b (by simp only at hb';simp[CliI.foot,hb']);rw[e]at hb;cases hb;omega
 ·rcases List.mem_cons.1 hx with e|e
  ·rw[e];simp[CliI.foot]
  ·simp[CliI.foot,optMem e]
 ·rcases h4 with e|⟨g,e,hg⟩
  ·left;unfold CliI.foot at hb⊢;simp only[e]at hb;exact hb
  ·unfold CliI.foot at hb⊢;simp only[e]at hb;by_cases hbg:b=g
   ·exact .inr (by omega)
   ·left;simp[hbg]at hb⊢;rcases hb with e|e|e|e|e<;>simp[e]
theorem CorAt.popped {W6 W7:World}{c:Cmd}{cs:List Cmd}{q:Nat}{qs:List Nat}{cap:Nat}(h:CorAt W win v s)(hs:s.waits=c::cs)(hq:v.qs=q::qs)(hw:v.wv= .slice (some ⟨g,0,none⟩) (qs.length+1) cap)(h6:W6.ownsRow 0 175 1 (.slice (some ⟨g,0,none⟩) qs.length cap) qs.length (qs.map ptrV))(k6:Chg [g] W W6)(buf':Array Value)(a' b':Nat)(tm':Bool)(hb':buf'.size=cs.length)(h7:W7=(W6.setCell ⟨v.C,2,none⟩ (.slice (some ⟨g,0,none⟩) qs.length cap)).setChan v.ch win buf' false a' b' tm'):CorAt W7 win {v with wv:= .slice (some ⟨g,0,none⟩) qs.length cap,qs:=qs} {s with waits:=cs}∧Chg v.foot W W7∧CliI.foot {v with wv:= .slice (some ⟨g,0,none⟩) qs.length cap,qs:=qs}=v.foot:=by
 obtain⟨n1,n2,n3,n4,n5⟩:=h.nC;have hwo:v.wv.ownBlock=some g:=by rw[hw];rfl
 have hW:=h.nW hwo;obtain⟨m1,m2,m3,m4⟩:=h.nCh;have hfoot:CliI.foot {v with wv:= .slice (some ⟨g,0,none⟩) qs.length cap,qs:=qs}=v.foot:=by unfold CliI.foot;simp only[hw];rfl
 have kb:∀b<W.heap.size,b≠g→b≠v.C→b≠v.ch→W7.heap[b]?=W.heap[b]?:=fun b hb e1 e2 e3=>by
  rw[h7];rw[(chg_setChan _ _ _ _ _ _ _ _).block b (by rw[World.size_setCell];exact Nat.lt_of_lt_of_le hb k6.size) (by simpa using e3)];rw[Below.heap_setCell W6 ⟨v.C,2,none⟩ _ b e2];exact k6.block b hb (by simpa using e1)
 have hgC:v.C≠g:=fun e=>n4 (by rw[hwo,e])
 have hC6:W6.heap[v.C]?=some (clO v.R v.ch v.wv v.bp v.bv):=(k6.block v.C (blkLt h.blk) (by simpa using hgC)).trans h.blk;have hC7:=blkSet (i:=2) hC6 (.slice (some ⟨g,0,none⟩) qs.length cap);obtain⟨buf,a,b,tm,c1,c2⟩:=h.chan;have hlc:v.ch<(W6.setCell ⟨v.C,2,none⟩ (.slice (some ⟨g,0,none⟩) qs.length cap)).heap.size:=by rw[World.size_setCell];exact Nat.lt_of_lt_of_le (blkLt c1) k6.size
 have hqlen:qs.length=cs.length:=by have:=h.ql;rw[hs,hq]at this;simpa using this
 refine⟨⟨?_,h.rd.other (kb _ (h.old _ (by simp[CliI.foot])) (fun e=>hW.2.1 e.symm) (fun e=>n2 e.symm) (fun e=>m1 e.symm)) (fun b hb=>kb b (h.old b (by simp[CliI.foot,hb])) (fun e=>hW.2.2.1 (by rw[hb,e])) (fun e=>n3 (by rw[hb,e])) (fun e=>m2 (by rw[hb,e]))),h.di,⟨buf',a',b',tm',by rw[h7];exact heap_setChan _ _ _ _ _ _ _ _ hlc,hb'⟩,?_,hqlen,h.bpv,h.bld.other (fun b hb=>kb b (h.old b (by simp[CliI.foot,hb])) (fun e=>hW.2.2.2 (by rw[hb,e])) (fun e=>n5 (by rw[hb,e])) (fun e=>m4 (by rw[hb,e]))),h.ab⟩,?_,hfoot⟩
 ·rw[h7];rw[(chg_setChan _ _ _ _ _ _ _ _).block v.C (by rw[World.size_setCell];exact blkLt hC6) (by simpa using n1)];exact hC7
 ·have h8:W7.ownsRow 0 175 1 (.slice (some ⟨g,0,none⟩) qs.length cap) qs.length (qs.map ptrV):=ownsRow_other h6 (fun g' hg'=>by
   cases hg';rw[h7,(chg_setChan _ _ _ _ _ _ _ _).block g (by rw[World.size_setCell];obtain⟨cur,hc⟩:=ownsRow_blk h6 rfl;exact blkLt hc) (by simpa using hW.1),Below.heap_setCell W6 ⟨v.C,2,none⟩ _ g (fun e=>hgC e.symm)])
  simp only
  rw[←hqlen];exact h8
 ·have k7:Chg v.foot W (W6.setCell ⟨v.C,2,none⟩ (.slice (some ⟨g,0,none⟩) qs.length cap)):=(k6.more (M':=v.foot) (fun x hx=>by simp at hx;rw[hx];simp[CliI.foot,hwo])).set (.inl (by simp[CliI.foot])) _;rw[h7];exact k7.trans (chg_setChan _ _ _ _ _ _ _ _) (fun b hb=> .inl (by simp at hb;rw[hb];simp[CliI.foot]))
theorem CorAt.waitLen (h:CorAt W win v s):waitLen W v.C=s.waits.length:=by
 have c2:=(clCells h.blk).2.2.1;unfold YtlonjggfnleolaaGreatDoor.waitLen;rw[c2];rcases h.row.2 with⟨e,h0⟩|⟨g,cap,cur,e,_⟩
 ·rw[e,h0]
 ·rw[e]
theorem CorAt.chan' (h:CorAt W win v s)(k:Chg [v.ch] W W')(buf':Array Value)(a b:Nat)(tm:Bool)(hb:buf'.size=s.waits.length)(hc:W'.heap[v.ch]?=some (.chan win buf' false a b tm)):CorAt W' win v s:=by
 obtain⟨n1,n2,n3,n4,n5⟩:=h.nC;obtain⟨m1,m2,m3,m4⟩:=h.nCh;have kb:∀b∈v.foot,b≠v.ch→W'.heap[b]?=W.heap[b]?:=fun b hb hn=>k.block b (h.old b hb) (by simpa using hn)
 obtain⟨buf0,a0,b0,tm0,c1,_⟩:=h.chan;exact⟨(kb _ (by simp[CliI.foot]) n1).trans h.blk,h.rd.other (kb _ (by simp[CliI.foot]) (fun e=>m1 e.symm)) (fun b hb=>kb b (by simp[CliI.foot,hb]) (fun e=>m2 (by rw[hb,e]))),h.di,⟨buf',a,b,tm,hc,hb⟩,ownsRow_other h.row (fun g hg=>kb g (by simp[CliI.foot,hg]) (fun e=>m3 (by rw[hg,e]))),h.ql,h.bpv,h.bld.other (fun g hg=>kb g (by simp[CliI.foot,hg]) (fun e=>m4 (by rw[hg,e]))),h.ab⟩
theorem CorAt.took (h:CorAt W win v s)(st':St)(hT:RdrTo W W' v.R v.hb v.t st'):∃hb',CorAt W' win {v with hb:=hb'} {s with st:=st'}∧Chg v.foot W W'∧Later W v.foot (CliI.foot {v with hb:=hb'}):=by
 obtain⟨⟨hb',hR,hF⟩,hTn⟩:=hT;obtain⟨n1,n2,n3,n4,n5⟩:=h.nC;obtain⟨m1,m2,m3,m4⟩:=h.nCh;have k:Chg v.foot W W':=⟨hTn.os,hTn.tape,hTn.output,hTn.size,fun b hb hn=>hTn.block b hb (fun e=>hn (by rw[e];simp[CliI.foot])) (fun e=>hn (by simp[CliI.foot,←e]))⟩
 have kb:∀b∈v.foot,b≠v.R→v.hb≠some b→W'.heap[b]?=W.heap[b]?:=fun b hb h1 h2=>hTn.block b (h.old b hb) h1 (fun e=>h2 (by rw[e]))
 obtain⟨buf,a,b,tm,c1,c2⟩:=h.chan;refine⟨hb',⟨(kb _ (by simp[CliI.foot]) n2 n3).trans h.blk,hR,h.di,⟨buf,a,b,tm,(kb _ (by simp[CliI.foot]) m1 m2).trans c1,c2⟩,ownsRow_other h.row (fun g hg=>kb g (by simp[CliI.foot,hg]) (h.nW hg).2.1 (h.nW hg).2.2.1),h.ql,h.bpv,h.bld.other (fun g hg=>kb g (by simp[CliI.foot,hg]) (h.nB hg).2.1 (h.nB hg).2.2.1),fun b hb hb2=>?_⟩,k,fun b hb=>?_⟩
 ·simp only at hb hb2;have hlt:=h.old b (by simp[CliI.foot,hb]);rcases hF with e|e|⟨j,e,hj⟩
  ·exact h.ab b hb (by rw[←e];exact hb2)
  ·rw[e]at hb2;cases hb2
  ·rw[e]at hb2;cases hb2;omega
 ·unfold CliI.foot at hb⊢;simp at hb⊢;rcases hb with e|e|e|e|e|e
  ·simp[e]
  ·simp[e]
  ·simp[e]
  ·rcases hF with e2|e2|⟨j,e2,hj⟩
   ·rw[e2]at e;simp[e]
   ·rw[e2]at e;cases e
   ·rw[e2]at e;cases e;exact .inr hj
  ·simp[e]
  ·simp[e]
theorem CorAt.next (h:CorAt W win v s)(x:StepR)(hx:readR s.d s.st.held=some x)(q g' c':Nat)(buf':Array Value)(s' r':Nat)(tm:Bool)(hb':Option Nat)(h1:W'.heap[v.C]?=some (clO v.R v.ch (.slice (some ⟨g',0,none⟩) (s.waits.length+1) c') v.bp v.bv))(h2:W'.ownsRow 0 175 1 (.slice (some ⟨g',0,none⟩) (s.waits.length+1) c') (s.waits.length+1) (v.qs.map ptrV++[.pointer (some ⟨q,0,none⟩)]))(h3:v.wv.ownBlock=some g'∨W.heap.size≤g')(h4:buf'.size=s.waits.length+1)(h5:W'.heap[v.ch]?=some (.chan win buf' false s' r' tm))(h6:RdrAt W' v.R hb' v.t (afterS s.st x))(h7:Fresh W v.hb hb')(h8:NewQ W.heap.size W' q x.c)(h9:Chg (v.C::v.ch::v.R::(v.hb.toList++v.wv.ownBlock.toList)) W W'):CorAt W' win ⟨v.C,v.R,v.ch,v.t,hb',.slice (some ⟨g',0,none⟩) (s.waits.length+1) c',v.bp,v.bv,v.qs++[q]⟩ ⟨s.d,afterS s.st x,s.waits++[x.c],s.told⟩∧Chg v.foot W W'∧Later W v.foot (CliI.foot ⟨v.C,v.R,v.ch,v.t,hb',.slice (some ⟨g',0,none⟩) (s.waits.length+1) c',v.bp,v.bv,v.qs++[q]⟩):=by
 have hsub:∀b∈v.C::v.ch::v.R::(v.hb.toList++v.wv.ownBlock.toList),b∈v.foot:=fun b hb=>by
  unfold CliI.foot;simp at hb⊢;rcases hb with e|e|e|e|e<;>simp[e]
 obtain⟨n1,n2,n3,n4,n5⟩:=h.nC;obtain⟨m1,m2,m3,m4⟩:=h.nCh;refine⟨⟨h1,h6,h.di,⟨buf',s',r',tm,h5,by simp[h4]⟩,?_,by simp[h.ql],h.bpv,h.bld.other (fun b hb=>h9.block b (h.old b (by simp[CliI.foot,hb])) (fun hm=>?_)),fun b hb hb2=>?_⟩,h9.more hsub,fun b hb=>?_⟩
 ·simp only[List.length_append,List.length_singleton,List.map_append,List.map_cons,List.map_nil]
  exact h2
 ·obtain⟨o1,o2,o3,o4⟩:=h.nB hb;simp at hm;rcases hm with e|e|e|e|e
  ·exact n5 (by rw[hb,e])
  ·exact o1 e
  ·exact o2 e
  ·exact o3 e
  ·exact o4 e
 ·simp only at hb hb2;have hlt:=h.old b (by simp[CliI.foot,hb]);rcases h7 with e|e|⟨k,e,hk⟩
  ·exact h.ab b hb (by rw[←e];exact hb2)
  ·rw[e]at hb2;cases hb2
  ·rw[e]at hb2;cases hb2;omega
 ·unfold CliI.foot at hb⊢;simp at hb⊢;rcases hb with e|e|e|e|e|e
  ·simp[e]
  ·simp[e]
  ·simp[e]
  ·rcases h7 with e2|e2|⟨k,e2,hk⟩
   ·rw[e2]at e;simp[e]
   ·rw[e2]at e;cases e
   ·rw[e2]at e;cases e;exact .inr hk
  ·have e':g'=b:=by simpa [Value.ownBlock]using e
   rcases h3 with e2|e2
   ·rw[e']at e2;simp[e2]
   ·exact .inr (by omega)
  ·simp[e]
variable {W W':World}{x:QS}{b win:Nat}{xs:List QS}
structure QI where
 q:Nat
 yb:Nat
 vb:Nat
 kb:Option Nat
 kv:Value
def QI.foot (v:QI):List Nat:=v.q::v.yb::v.vb::v.kb.toList
def yesC (ps:List PS):Array Value:=(ps.map (fun p=>Value.bool p.yes)).toArray
def valC (ps:List PS):Array Value:=(ps.map (fun p=>Value.string p.val)).toArray
def qdOf (v:QI)(x:QS):QD:=⟨x.c.kind,v.kv,x.c.val,x.c.word,x.c.fatal,x.c.id,x.n,x.fa,x.re,.slice (some ⟨v.yb,0,none⟩) x.ps.length x.ps.length,.slice (some ⟨v.vb,0,none⟩) x.ps.length x.ps.length⟩
structure QuAt (W:World)(v:QI)(x:QS):Prop where
 blk:W.heap[v.q]?=some (qdO (qdOf v x))
 yes:W.heap[v.yb]?=some (.cells (yesC x.ps) 4 (0,0))
 val:W.heap[v.vb]?=some (.cells (valC x.ps) 9 (0,0))
 keys:(x.c.keys=[]∧v.kb=none∧∃ka kc,v.kv= .slice ka 0 kc)∨∃b c Z,v.kb=some b∧b≠v.vb∧v.kv= .slice (some ⟨b,0,none⟩) x.c.keys.length c∧x.c.keys.length≤c∧W.heap[b]?=some (.cells Z 9 (0,0))∧∀(i:Nat) (k:ByteArray),x.c.keys[i]?=some k→Z[i]?=some (.string k)
theorem QuAt.kind {v:QI}(h:QuAt W v x):∀b∈v.foot,∃Z T,W.heap[b]?=some (.cells Z T (0,0))∧(T=216∨T=4∨T=9):=by
 intro b hb;unfold QI.foot at hb;rcases List.mem_cons.1 hb with rfl|hb
 ·exact⟨_,_,h.blk,.inl rfl⟩
 rcases List.mem_cons.1 hb with rfl|hb
 ·exact⟨_,_,h.yes,.inr (.inl rfl)⟩
 rcases List.mem_cons.1 hb with rfl|hb
 ·exact⟨_,_,h.val,.inr (.inr rfl)⟩
 ·have hb:=optMem hb;rcases h.keys with⟨_,e,_⟩|⟨b',c,Z,e,_,_,_,hZ,_⟩
  ·rw[e]at hb;cases hb
  ·rw[e]at hb;cases hb;exact⟨_,_,hZ,.inr (.inr rfl)⟩
theorem QuAt.old {v:QI}(h:QuAt W v x):∀b∈v.foot,b<W.heap.size:=fun b hb=>by
 obtain⟨Z,T,h1,_⟩:=h.kind b hb
 exact blkLt h1
theorem QuAt.keep {v:QI}(h:QuAt W v x)(k:∀b∈v.foot,W'.heap[b]?=W.heap[b]?):QuAt W' v x:=by
 refine⟨(k _ (by simp[QI.foot])).trans h.blk,(k _ (by simp[QI.foot])).trans h.yes,(k _ (by simp[QI.foot])).trans h.val,?_⟩;rcases h.keys with e|⟨b',c,Z,e,e2,e3,e4,hZ,e5⟩
 ·exact .inl e
 ·exact .inr ⟨b',c,Z,e,e2,e3,e4,(k b' (by simp[QI.foot,e])).trans hZ,e5⟩
theorem QuAt.nd {v:QI}(h:QuAt W v x):v.foot.Nodup:=by
 have h1:=h.blk;have h2:=h.yes;have h3:=h.val;unfold qdO quO at h1;have n1:v.q≠v.yb:=fun e=>by rw[e,h2]at h1;simp at h1
 have n2:v.q≠v.vb:=fun e=>by rw[e,h3]at h1;simp at h1
 have n3:v.yb≠v.vb:=fun e=>by rw[e,h3]at h2;simp at h2
 unfold QI.foot;rcases h.keys with⟨_,e,_⟩|⟨b',c,Z,e,e2,_,_,hZ,_⟩
 ·rw[e];simp[n1,n2,n3]
 ·have n4:v.q≠b':=fun e=>by rw[e,hZ]at h1;simp at h1
  have n5:v.yb≠b':=fun e=>by rw[e,hZ]at h2;simp at h2
  have n6:v.vb≠b':=fun e=>e2 e.symm
  rw[e];simp[n1,n2,n3,n4,n5,n6]
def feetQ (qs:List QI):List Nat:=(qs.map QI.foot).flatten
theorem mem_feetQ {qs:List QI}:b∈feetQ qs↔∃v∈qs,b∈v.foot:=by
 unfold feetQ;rw[List.mem_flatten];constructor
 ·rintro ⟨l,hl,hb⟩;obtain⟨v,hv,rfl⟩:=List.mem_map.1 hl;exact⟨v,hv,hb⟩
 ·rintro ⟨v,hv,hb⟩;exact⟨_,List.mem_map.2 ⟨v,hv,rfl⟩,hb⟩
structure QusAt (W:World)(qs:List QI)(xs:List QS):Prop where
 len:qs.length=xs.length
 qu:∀(i:Nat) (v:QI) (x:QS),qs[i]?=some v→xs[i]?=some x→QuAt W v x
 nd:(feetQ qs).Nodup
theorem QusAt.get {qs:List QI}(h:QusAt W qs xs){v:QI}(hv:v∈qs):∃(i:Nat) (x:QS),qs[i]?=some v∧xs[i]?=some x∧QuAt W v x:=by
 obtain⟨i,hi,e⟩:=List.mem_iff_getElem.1 hv;have hi2:i<xs.length:=by rw[←h.len];exact hi
 have e1:qs[i]?=some v:=by rw[List.getElem?_eq_getElem hi,e]
 exact⟨i,xs[i],e1,List.getElem?_eq_getElem hi2,h.qu i _ _ e1 (List.getElem?_eq_getElem hi2)⟩
theorem QusAt.kind {qs:List QI}(h:QusAt W qs xs):∀b∈feetQ qs,∃Z T,W.heap[b]?=some (.cells Z T (0,0))∧(T=216∨T=4∨T=9):=fun b hb=>by
 obtain⟨v,hv,hbv⟩:=mem_feetQ.1 hb
 obtain⟨i,x,_,_,hq⟩:=h.get hv
 exact hq.kind b hbv
theorem QusAt.old {qs:List QI}(h:QusAt W qs xs):∀b∈feetQ qs,b<W.heap.size:=fun b hb=>by
 obtain⟨Z,T,h1,_⟩:=h.kind b hb
 exact blkLt h1
theorem QusAt.keep {qs:List QI}(h:QusAt W qs xs)(k:∀b∈feetQ qs,W'.heap[b]?=W.heap[b]?):QusAt W' qs xs:=
 ⟨h.len,fun i v x hv hx=>(h.qu i v x hv hx).keep (fun b hb=>k b (mem_feetQ.2 ⟨v,List.mem_of_getElem? hv,hb⟩)),h.nd⟩
theorem feetQ_cons (v:QI)(qs:List QI):feetQ (v::qs)=v.foot++feetQ qs:=rfl
theorem feetQ_app (a b:List QI):feetQ (a++b)=feetQ a++feetQ b:=by unfold feetQ;simp
theorem feetQ_one (v:QI):feetQ [v]=v.foot:=by unfold feetQ;simp
theorem QusAt.tail {v:QI}{qs:List QI}(h:QusAt W (v::qs) (x::xs)):QuAt W v x∧QusAt W qs xs:=by
 refine⟨h.qu 0 v x rfl rfl,by have:=h.len;simpa using this,fun i u y hu hy=>h.qu (i+1) u y (by simpa using hu) (by simpa using hy),?_⟩;have:=h.nd;rw[feetQ_cons]at this;exact(List.nodup_append.1 this).2.1
theorem QusAt.snoc {v:QI}{qs:List QI}(h:QusAt W qs xs)(hv:QuAt W v x)(hn:∀b∈v.foot,b∉feetQ qs):QusAt W (qs++[v]) (xs++[x]):=by
 refine⟨by simp[h.len],fun i u y hu hy=>?_,?_⟩
 ·by_cases hi:i<qs.length
  ·rw[List.getElem?_append_left hi]at hu;rw[List.getElem?_append_left (by rw[←h.len];exact hi)]at hy;exact h.qu i u y hu hy
  ·have hi2:i=qs.length:=by
    have:=(List.getElem?_eq_some_iff.1 hu).1;simp at this;omega
   subst hi2;rw[List.getElem?_append_right (Nat.le_refl _)]at hu;rw[List.getElem?_append_right (by rw[h.len];exact Nat.le_refl _),←h.len]at hy;simp at hu hy;subst hu hy;exact hv
 ·rw[feetQ_app,feetQ_one];exact List.nodup_append.2 ⟨h.nd,hv.nd,fun a ha b hb e=>hn b hb (e▸ha)⟩
theorem QusAt.ap:∀{qs:List QI} {xs:List QS},QusAt W qs xs→∀(i j:Nat) (v u:QI),i≠j→qs[i]?=some v→qs[j]?=some u→∀b∈v.foot,b∉u.foot:=by
 intro qs;induction qs with
 |nil=>intro xs h i j v u _ hv;simp at hv
 |cons q qs ih=>
  intro xs h i j v u hij hv hu b hb hb2;cases xs with
  |nil=>have:=h.len;simp at this
  |cons x xs=>
   have ht:=h.tail.2;have hn:=h.nd;rw[feetQ_cons]at hn;have hd:=(List.nodup_append.1 hn).2.2;cases i with
   |zero=>
    cases j with
    |zero=>exact hij rfl
    |succ j=>
     simp at hv hu;subst hv;exact hd b hb b (mem_feetQ.2 ⟨u,List.mem_of_getElem? hu,hb2⟩) rfl
   |succ i=>
    cases j with
    |zero=>
     simp at hv hu;subst hu;exact hd b hb2 b (mem_feetQ.2 ⟨v,List.mem_of_getElem? hv,hb⟩) rfl
    |succ j=>exact ih ht i j v u (by omega) (by simpa using hv) (by simpa using hu) b hb hb2
theorem QusAt.set {qs:List QI}(h:QusAt W qs xs){i:Nat}{v:QI}{x':QS}(hv:qs[i]?=some v)(k:∀b∈feetQ qs,b∉v.foot→W'.heap[b]?=W.heap[b]?)(hx:QuAt W' v x'):QusAt W' qs (xs.set i x'):=by
 refine⟨by simp[h.len],fun j u y hu hy=>?_,h.nd⟩;by_cases hj:i=j
 ·subst hj;rw[hv]at hu;cases hu;have hi:i<xs.length:=by rw[←h.len];exact(List.getElem?_eq_some_iff.1 hv).1
  rw[List.getElem?_set_self hi]at hy;cases hy;exact hx
 ·rw[List.getElem?_set_ne hj]at hy;exact(h.qu j u y hu hy).keep (fun b hb=>k b (mem_feetQ.2 ⟨u,List.mem_of_getElem? hu,hb⟩) (h.ap j i u v (fun e=>hj e.symm) hu hv b hb))
structure CliQ where
 d:Int
 st:St
 qs:List QS
 told:List UInt8
def CliQ.k (s:CliQ):CliS:=⟨s.d,s.st,s.qs.map (·.c),s.told⟩
structure CliV where
 k:CliI
 qi:List QI
def CliV.foot (v:CliV):List Nat:=v.k.foot++feetQ v.qi
structure CliAt (W:World)(win:Nat)(v:CliV)(s:CliQ):Prop where
 cor:CorAt W win v.k s.k
 qk:v.k.qs=v.qi.map (·.q)
 qu:QusAt W v.qi s.qs
 ok:∀x∈s.qs,QSOk s.d x
theorem CliAt.kind {v:CliV}{s:CliQ}(h:CliAt W win v s):∀b∈v.foot,(∃Z T f,W.heap[b]?=some (.cells Z T f)∧(T=125∨T=134∨T=5∨T=175∨T=216∨T=4∨T=9))∨∃cap buf cl a c tm,W.heap[b]?=some (.chan cap buf cl a c tm):=by
 intro b hb;rcases List.mem_append.1 hb with hb|hb
 ·rcases h.cor.kind b hb with⟨Z,T,f,h1,h2⟩|h1
  ·exact .inl ⟨Z,T,f,h1,by rcases h2 with e|e|e|e<;>simp[e]⟩
  ·exact .inr h1
 ·obtain⟨Z,T,h1,h2⟩:=h.qu.kind b hb;exact .inl ⟨Z,T,_,h1,by rcases h2 with e|e|e<;>simp[e]⟩
theorem CliAt.old {v:CliV}{s:CliQ}(h:CliAt W win v s):∀b∈v.foot,b<W.heap.size:=by
 intro b hb;rcases h.kind b hb with⟨Z,T,f,h1,_⟩|⟨cap,buf,cl,a,c,tm,h1⟩
 ·exact blkLt h1
 ·exact blkLt h1
theorem CliAt.apart {v:CliV}{s:CliQ}(h:CliAt W win v s){T:Nat}{Z:Array Value}{f:Nat×Nat}(hb:W.heap[b]?=some (.cells Z T f))(hT:T≠125∧T≠134∧T≠5∧T≠175∧T≠216∧T≠4∧T≠9):b∉v.foot:=by
 intro hm;rcases h.kind b hm with⟨Z',T',f',h1,h2⟩|⟨cap,buf,cl,a,c,tm,h1⟩
 ·rw[hb]at h1;simp at h1;obtain⟨_,rfl,_⟩:=h1;rcases h2 with e|e|e|e|e|e|e<;>simp[e]at hT
 ·rw[hb]at h1;cases h1
theorem CliAt.keep {v:CliV}{s:CliQ}(h:CliAt W win v s)(k:∀b∈v.foot,W'.heap[b]?=W.heap[b]?):CliAt W' win v s:=
 ⟨h.cor.keep (fun b hb=>k b (List.mem_append.2 (.inl hb))),h.qk,h.qu.keep (fun b hb=>k b (List.mem_append.2 (.inr hb))),h.ok⟩
theorem CliAt.below {v:CliV}{s:CliQ}(h:CliAt W win v s)(hb:Below W.heap.size W W'):CliAt W' win v s:=h.keep (fun b hm=>hb.block b (h.old b hm))
theorem CliAt.ap {v:CliV}{s:CliQ}(h:CliAt W win v s):∀b∈feetQ v.qi,b∉v.k.foot:=fun b hb=>by
 obtain⟨Z,T,h1,h2⟩:=h.qu.kind b hb
 exact h.cor.apart h1 (by rcases h2 with e|e|e<;>(subst e;decide))
theorem CliAt.corTo {v:CliV}{s:CliQ}(h:CliAt W win v s){k':CliI}{told':List UInt8}{st':St}(c:Chg v.k.foot W W')(hc:CorAt W' win k' ⟨s.d,st',s.qs.map (·.c),told'⟩)(hq:k'.qs=v.k.qs)(hl:Later W v.k.foot k'.foot):CliAt W' win ⟨k',v.qi⟩ ⟨s.d,st',s.qs,told'⟩∧Chg v.foot W W'∧Later W v.foot (CliV.foot ⟨k',v.qi⟩):=by
 refine⟨⟨hc,hq.trans h.qk,h.qu.keep (fun b hb=>c.block b (h.qu.old b hb) (h.ap b hb)),h.ok⟩,c.more (fun b hb=>List.mem_append.2 (.inl hb)),fun b hb=>?_⟩;rcases List.mem_append.1 hb with hb|hb
 ·rcases hl b hb with h1|h1
  ·exact .inl (List.mem_append.2 (.inl h1))
  ·exact .inr h1
 ·exact .inl (List.mem_append.2 (.inr hb))
variable {W:World}{v:QI}{x:QS}{d:Int}
def tellF (d:Int):Nat:=if d=1 then 212 else if d=2 then 245 else 252
theorem QuAt.bools (h:QuAt W v x)(hl:x.ps.length≤1000):BoolsIn W (some ⟨v.yb,0,none⟩) x.ps.length x.ps.length (x.ps.map PS.yes):=by
 refine⟨by simp,Nat.le_refl _,by simp;omega,.inl ⟨v.yb,0,rfl,blkLt h.yes,fun i s hs=>?_⟩⟩;rw[blkCell h.yes (0+i),Nat.zero_add];unfold yesC;rw[List.getElem?_map]at hs;simp only[List.getElem?_toArray,List.getElem?_map]
 cases hp:x.ps[i]?with
 |none=>rw[hp]at hs;cases hs
 |some p=>rw[hp]at hs;cases hs;rfl
theorem QuAt.strs (h:QuAt W v x)(hl:x.ps.length≤1000)(h40:∀p∈x.ps,p.val.size≤40):StrsIn W (some ⟨v.vb,0,none⟩) x.ps.length x.ps.length (x.ps.map PS.val):=by
 refine⟨by simp,Nat.le_refl _,by simp;omega,fun s hs=>?_,.inl ⟨v.vb,0,rfl,blkLt h.val,fun i s hs=>?_⟩⟩
 ·obtain⟨p,hp,rfl⟩:=List.mem_map.1 hs;have:=h40 p hp;unfold maxLen;omega
 ·rw[blkCell h.val (0+i),Nat.zero_add];unfold valC;rw[List.getElem?_map]at hs;simp only[List.getElem?_toArray,List.getElem?_map]
  cases hp:x.ps[i]?with
  |none=>rw[hp]at hs;cases hs
  |some p=>rw[hp]at hs;cases hs;rfl
theorem dial_tell (d:Int)(hd:d=1∨d=2∨d=3)(ck:Int)(a:Option Addr)(n c:Nat)(ss:List ByteArray)(val cw:ByteArray)(ft:Bool)(cid:Int)(ak:Int)(fa va:Option Addr)(fn fc vn vc:Nat)(bs:List Bool)(vs:List ByteArray)(fv vv:Value)(wd:ByteArray)(id:Int)(W:World)(hs:StrsIn W a n c ss)(hf:BoolsIn W fa fn fc bs)(hv:StrsIn W va vn vc vs)(hA:answerB ck ss val ak bs vs wd=true)(hS:sayB d ck n id=true)(hfv:ak=1→fv= .slice fa fn fc∧vv= .slice va vn vc):Calls Tryz.prog (tellF d) #[.agg #[],cmdV6 ck (.slice a n c) val cw ft cid,ansV ak fv vv wd,.int .i64 id] W fun e w'=>e= .returned (.string (tellS d ck ak ss bs vs wd id))∧Below W.heap.size W w':=by
 have hsl:=hs.len;have hfl:=hf.len;have hvl:=hv.len;rcases hd with rfl|rfl|rfl
 ·show Calls Tryz.prog 212 _ _ _;rcases answer_parts hA with⟨rfl,rfl,F⟩|⟨h1,hk,h5⟩
  ·obtain⟨rfl,rfl⟩:=hfv rfl;obtain rfl:fn=n:=by rw[←hfl,←hsl];exact F.bl
   obtain rfl:vn=fn:=by rw[←hvl,←hsl];exact F.vl
   exact liTell_found a fa va _ c fc vc ss bs vs val cw ft cid wd id W hs hf hv (by rw[←hsl];exact F.l4) F.k8 F.v40
  ·have e:tellS 1 ck ak ss bs vs wd id=liTellB ak wd:=by unfold tellS;rw[if_pos rfl,if_neg h1]
   rw[e];exact liTell_plain ck _ val cw ft cid ak _ _ wd id W hk h5
 ·show Calls Tryz.prog 245 _ _ _;rw[say2]at hS;obtain⟨i0,i1,hone⟩:=frSay_id hS;rcases answer_parts hA with⟨rfl,rfl,F⟩|⟨h1,hk,h5⟩
  ·obtain⟨rfl,rfl⟩:=hfv rfl;have hn1:ss.length=1:=by have:=hone rfl;have:=F.l1;omega
   obtain⟨f,rfl⟩:=list1 (F.bl.trans hn1);obtain⟨x,rfl⟩:=list1 (F.vl.trans hn1);obtain⟨rfl,hfc,fb,fo,rfl,hfb,hfcell⟩:=one_bools hf;obtain⟨rfl,hvc,vb,vo,rfl,hvb,hvcell⟩:=one_strs hv;have hx:=F.v40 x (by simp);exact frTell_found _ val cw ft cid f x fb fo fc vb vo vc wd id W i0 i1 hx hfc hvc hfb hvb hfcell hvcell
  ·have e:tellS 2 ck ak ss bs vs wd id=headB 2 (stB ak) 0 0 (tidB ck id):=by unfold tellS;rw[if_neg (by decide),if_pos rfl,if_neg h1]
   rw[e];exact frTell_plain ck _ val cw ft cid ak _ _ wd id W h1 i0 i1
 ·show Calls Tryz.prog 252 _ _ _;rcases answer_parts hA with⟨rfl,rfl,F⟩|⟨h1,hk,h5⟩
  ·obtain⟨rfl,rfl⟩:=hfv rfl;obtain rfl:fn=n:=by rw[←hfl,←hsl];exact F.bl
   obtain rfl:vn=fn:=by rw[←hvl,←hsl];exact F.vl
   have e:tellS 3 1 1 ss bs vs wd id=lsVals vn (bs.zip vs):=by unfold tellS;rw[if_neg (by decide),if_neg (by decide),if_pos rfl,hsl]
   rw[e];exact lsTell_found 1 _ fa va _ fc vc bs vs val cw ft cid wd id W hf hv (by rw[←hsl];exact F.l1) (by rw[←hsl];exact F.l4) F.v40
  ·have e:tellS 3 ck ak ss bs vs wd id=lsTellB ak wd:=by unfold tellS;rw[if_neg (by decide),if_neg (by decide),if_neg h1]
   rw[e];exact lsTell_plain ck _ val cw ft cid ak _ _ wd id W hk h5
theorem wrong_tell (d:Int)(hd:d=1∨d=2∨d=3)(c:Cmd)(kv:Value)(W:World)(hc:CmdOk c)(hk:c.keys=[]):Calls Tryz.prog (tellF d) #[.agg #[],cmdV6 c.kind kv c.val c.word c.fatal c.id,ansV 5 (.slice none 0 0) (.slice none 0 0) c.word,.int .i64 c.id] W fun e w'=>e= .returned (.string (wrongB d c))∧Below W.heap.size W w':=by
 have h4:=hc.wrong hk;rcases hd with rfl|rfl|rfl
 ·show Calls Tryz.prog 212 _ _ _;rw[h4.1];unfold wrongB;rw[if_pos rfl];exact liTell_plain 4 kv c.val c.word c.fatal c.id 5 _ _ c.word c.id W (by omega) (fun _=>h4.2)
 ·show Calls Tryz.prog 245 _ _ _;rw[h4.1];exact frTell_plain 4 kv c.val c.word c.fatal c.id 5 _ _ c.word c.id W (by omega) hc.id0 hc.id1
 ·show Calls Tryz.prog 252 _ _ _;rw[h4.1];unfold wrongB;rw[if_neg (by decide),if_neg (by decide)];exact lsTell_plain 4 kv c.val c.word c.fatal c.id 5 _ _ c.word c.id W (by omega) (fun _=>h4.2)
def ansQ (v:QI)(x:QS):Value:=if x.c.keys=[]then ansV 5 (.slice none 0 0) (.slice none 0 0) x.c.word else ansOf x.c.kind x.fa x.re ((x.ps.map PS.yes).headD false) (.slice (some ⟨v.yb,0,none⟩) x.ps.length x.ps.length) (.slice (some ⟨v.vb,0,none⟩) x.ps.length x.ps.length)
theorem ansOf_eq (x:QS)(yv vv:Value):ansOf x.c.kind x.fa x.re ((x.ps.map PS.yes).headD false) yv vv=ansV x.ak (if x.ak=1 then yv else .slice none 0 0) (if x.ak=1 then vv else .slice none 0 0) x.wd:=by
 unfold ansOf QS.ak QS.wd;cases x.fa with
 |true=>simp
 |false=>
  cases x.re with
  |true=>simp
  |false=>
   by_cases h1:x.c.kind=1
   ·simp[h1]
   ·by_cases h2:x.c.kind=2
    ·simp[h2]
    ·cases (x.ps.map PS.yes).headD false<;>simp[h1,h2]
theorem QuAt.answers (h:QuAt W v x)(ok:QSOk d x)(W':World)(hb:Below W.heap.size W W'):Calls Tryz.prog 129 #[.pointer (some ⟨v.q,0,none⟩)] W' fun e w'=>e= .returned (ansQ v x)∧Below W'.heap.size W' w':=by
 have hq:=(hb.block v.q (blkLt h.blk)).trans h.blk;unfold qdO at hq;unfold ansQ;by_cases hk:x.c.keys=[]
 ·rw[if_pos hk];have h4:=(ok.w.cm.wrong hk).1;have hq2:=hq;rw[show(qdOf v x).k=4 from h4]at hq2;exact answer_wrong v.q _ _ _ _ _ _ _ _ _ _ W' hq2
 ·rw[if_neg hk];have hl:=ok.len;have hk0:0<x.c.keys.length:=List.length_pos_iff.2 hk;have h4:=ok.w.cm.k4;obtain⟨p,hp⟩:∃p,x.ps[0]?=some p:=⟨_,List.getElem?_eq_getElem (by omega)⟩
  have hy:W'.cell? ⟨v.yb,0,none⟩=some (.bool ((x.ps.map PS.yes).headD false)):=by
   rw[blkCell ((hb.block v.yb (blkLt h.yes)).trans h.yes) 0];unfold yesC;cases hps:x.ps with
   |nil=>rw[hps]at hp;cases hp
   |cons p ps=>simp
  exact qanswer_any v.q v.yb x.ps.length x.c.kind v.kv x.c.val x.c.word x.c.fatal x.c.id _ x.fa x.re _ _ W' hq ⟨_,_,_,rfl⟩ (ok.w.cm.right hk) (by omega) (by omega) hy
theorem QuAt.keysIn (h:QuAt W v x)(ok:QSOk d x)(hk:x.c.keys≠[]):∃b c,v.kv= .slice (some ⟨b,0,none⟩) x.c.keys.length c∧StrsIn W (some ⟨b,0,none⟩) x.c.keys.length c x.c.keys:=by
 have h4:=ok.w.cm.k4;rcases h.keys with⟨e,_⟩|⟨b,c,Z,e,e2,e3,e4,hZ,e5⟩
 ·exact absurd e hk
 ·refine⟨b,c,e3,rfl,e4,by omega,fun s hs=>?_,.inl ⟨b,0,rfl,blkLt hZ,fun i s hs=>?_⟩⟩
  ·have:=ok.w.cm.k8 s hs;unfold maxLen;omega
  ·rw[blkCell hZ (0+i),Nat.zero_add];exact e5 i s hs
theorem QuAt.tells (hd:d=1∨d=2∨d=3)(h:QuAt W v x)(ok:QSOk d x)(W':World)(hb:Below W.heap.size W W'):Calls Tryz.prog (tellF d) #[.agg #[],cmdV6 x.c.kind v.kv x.c.val x.c.word x.c.fatal x.c.id,ansQ v x,.int .i64 x.c.id] W' fun e w'=>e= .returned (.string (toldB d x))∧Below W'.heap.size W' w':=by
 unfold ansQ toldB;by_cases hk:x.c.keys=[]
 ·rw[if_pos hk,if_pos hk];exact wrong_tell d hd x.c v.kv W' ok.w.cm hk
 ·rw[if_neg hk,if_neg hk,ansOf_eq];have h4:=ok.w.cm.k4;have hl:=ok.len;obtain⟨b,c,e1,e2⟩:=h.keysIn ok hk;rw[e1];exact dial_tell d hd x.c.kind (some ⟨b,0,none⟩) x.c.keys.length c x.c.keys x.c.val x.c.word x.c.fatal x.c.id x.ak (some ⟨v.yb,0,none⟩) (some ⟨v.vb,0,none⟩) x.ps.length x.ps.length x.ps.length x.ps.length _ _ _ _ x.wd x.c.id W' (e2.later hb) ((h.bools (by omega)).later hb) ((h.strs (by omega) (fun p hp=>val_size (ok.ps p hp))).later hb) (ok.answer hk) (ok.say hd hk) (fun e=>by rw[if_pos e,if_pos e];exact⟨rfl,rfl⟩)
theorem lsFold_size (ts:List (Bool×ByteArray))(h:∀p∈ts,p.2.size≤40):(lsFold ts).size≤45*ts.length:=by
 have:∀(l:List (Bool×ByteArray)) (a:ByteArray),(∀p∈l,p.2.size≤40)→(l.foldl (fun s p=>s++tvB p) a).size≤a.size+45*l.length:=by
  intro l;induction l with
  |nil=>intro a _;simp
  |cons p l ih=>
   intro a hl;have h1:=ih (a++tvB p) (fun q hq=>hl q (by simp[hq]));have h2:=tvB_size (hl p (by simp));rw[ByteArray.size_append]at h1;simp only[List.foldl_cons,List.length_cons]
   omega
 have h0:=this ts ⟨#[]⟩ h;have e0:(ByteArray.mk #[]).size=0:=rfl;unfold lsFold;omega
theorem toldB_size (hd:d=1∨d=2∨d=3)(ok:QSOk d x):(toldB d x).size≤1000:=by
 unfold toldB;by_cases hk:x.c.keys=[]
 ·rw[if_pos hk];have:=wrongB_size (d:=d) ok.w.cm hk;rw[Array.length_toList]at this;exact this
 ·rw[if_neg hk];have hA:=ok.answer hk;have hh:∀a b c e:Int,(headB 2 a b c e).size=7:=fun a b c e=>by unfold headB;rw[strOfNums_size];rfl
  have one:∀b:UInt8,(ByteArray.mk #[b]).size=1:=fun b=>rfl
  generalize x.ps.map PS.yes=bs at hA⊢;generalize x.ps.map PS.val=vs at hA⊢;generalize x.c.keys=ss at hA⊢;generalize x.ak=ak at hA⊢;generalize x.wd=wd at hA⊢;generalize x.c.id=id at hA⊢;unfold tellS;rcases answer_parts hA with⟨rfl,e,F⟩|⟨h1,hk',h5⟩
  ·have hl4:=F.l4;have hbl:=F.bl;have hvl:=F.vl;rcases hd with rfl|rfl|rfl
   ·rw[if_pos rfl,if_pos rfl,ByteArray.size_append];have:=liFoldA_size ⟨#[]⟩ (bs.zip (ss.zip vs)) (fun p hp=>by
     have h1:=(List.of_mem_zip hp).2;have h2:=List.of_mem_zip (a:=p.2.1) (b:=p.2.2) h1;exact⟨F.k8 _ h2.1,F.v40 _ h2.2⟩)
    have hz:(bs.zip (ss.zip vs)).length≤4:=by simp;omega
    have e4:(ByteArray.mk #[101,110,100,10]).size=4:=rfl;have e0:(ByteArray.mk #[]).size=0:=rfl;unfold liFold;omega
   ·rw[if_neg (by decide),if_pos rfl,if_pos rfl,ByteArray.size_append,hh];have:(vs.headD ⟨#[]⟩).size≤40:=by
     cases vs with
     |nil=>exact Nat.zero_le _
     |cons a l=>exact F.v40 a (by simp)
    omega
   ·rw[if_neg (by decide),if_neg (by decide),if_pos rfl];have:=lsFold_size (bs.zip vs) (fun p hp=>F.v40 _ (List.of_mem_zip hp).2);have hz:(bs.zip vs).length≤4:=by simp;omega
    unfold lsVals;split
    ·omega
    ·rw[ByteArray.size_append,ByteArray.size_append,ByteArray.size_append,one,one];have:=dec100_size ss.length;omega
  ·have hw:ak=5→wd.size≤8:=h5;rcases hd with rfl|rfl|rfl
   ·rw[if_pos rfl,if_neg h1];unfold liTellB;split
    ·decide
    ·split
     ·decide
     ·split
      ·decide
      ·rw[ByteArray.size_append,ByteArray.size_append,one];have e4:(ByteArray.mk #[102,97,105,108,32]).size=5:=rfl;have:=hw (by omega);omega
   ·rw[if_neg (by decide),if_pos rfl,if_neg h1,hh];omega
   ·rw[if_neg (by decide),if_neg (by decide),if_neg h1];unfold lsTellB;split
    ·decide
    ·split
     ·decide
     ·split
      ·decide
      ·rw[ByteArray.size_append,ByteArray.size_append,one,one];have:=hw (by omega);omega
set_option maxHeartbeats 1000000
set_option maxRecDepth 100000
def tellQ (d:Int):List QS→List UInt8→List QS×List UInt8
 | [],told=>([],told)
 |x::xs,told=>if x.n=0 then tellQ d xs (told++(toldB d x).data.toList)else(x::xs,told)
theorem drop_tl {α:Type}{l:List α}{n:Nat}{x:α}{xs:List α}(h:x::xs=l.drop n):xs=l.drop (n+1):=by
 have:=congrArg List.tail h;simpa [List.tail_drop]using this
theorem cliTellP (win:Nat)(v:CliV)(s:CliQ)(w:World)(h:CliAt w win v s)(tt f:Nat)(dd:Int)(ht:v.k.t=tt)(hd:s.d=dd)(hd3:dd=1∨dd=2∨dd=3)(hm:∀w:World,(method 432 tt (.agg #[]) "Tell").run Tryz.prog w= .ok (f,.agg #[]) w)(hn:∀w:World,(nilAhead 432 tt (.agg #[]) "Tell").run Tryz.prog w= .ok (some false) w)(hcf:∀(xs:Array Value) (w:World),(callFunc f xs).run Tryz.prog w= .ok (.enter f xs) w)(hf:tellF dd=f)(hl:s.told.length+1000*s.qs.length≤100000000000)(hwn:s.qs.length≤1000):Calls Tryz.prog 89 #[.pointer (some ⟨v.k.C,0,none⟩)] w fun e w'=>e= .returned (.tuple #[])∧∃v',CliAt w' win v' {s with qs:=(tellQ s.d s.qs s.told).1,told:=(tellQ s.d s.qs s.told).2}∧v'.k.C=v.k.C∧v'.k.R=v.k.R∧Chg v.foot w w'∧Later w v.foot v'.foot∧∃n,v'.qi=v.qi.drop n∧(tellQ s.d s.qs s.told).1=s.qs.drop n:=by
 have hlt:=blkLt h.cor.blk;obtain⟨⟨C,R,ch,t,hb,wv,bp,bv,qs⟩,qi⟩:=v;obtain⟨sd,st,xs,told⟩:=s;simp only at ht hd hl hwn hlt⊢;subst ht hd;have hqk:=h.qk;simp only at hqk;subst hqk;have H0:=hide' h;obtain⟨F,hF⟩:∃F,CliV.foot ⟨⟨C,R,ch,t,hb,wv,bp,bv,qi.map (·.q)⟩,qi⟩=F:=⟨_,rfl⟩
 have HF:=hide' hF;simp only[hF]
 clear hF;clear h;go_enter Tryz.func89,Tryz.ntmps89;go_wp2_with fail
 go_loopw [2] (fun _ wr=>∃(wv' bp' bv':Value) (qi':List QI) (xs':List QS) (told':List UInt8),told'.length+1000*xs'.length≤100000000000∧xs'.length≤1000∧Hid (CorAt wr win ⟨C,R,ch,t,hb,wv',bp',bv',qi'.map (·.q)⟩ ⟨sd,st,xs'.map (·.c),told'⟩∧QusAt wr qi' xs'∧(∀x∈xs',QSOk sd x)∧(tellQ sd xs' told'=tellQ sd xs told∧∃n,qi'=qi.drop n∧xs'=xs.drop n)∧Chg F w wr∧Later w F (CliV.foot ⟨⟨C,R,ch,t,hb,wv',bp',bv',qi'.map (·.q)⟩,qi'⟩))) (fun _ wr=>waitLen wr C)
 case atStart=>exact⟨wv,bp,bv,qi,xs,told,hl,hwn,H0.out.cor,H0.out.qu,H0.out.ok,⟨rfl,0,rfl,rfl⟩,Chg.refl _ _,by rw[HF.out];exact Later.refl _ _⟩
 case round=>
  obtain⟨wv',bp',bv',qi',xs',told',hl',hwn',HJ⟩:=hrel;obtain⟨c0,c1,c2,c3,c4,cf⟩:=clCells HJ.out.1.blk;simp only at c0 c1 c2 c3 c4;have hltC:=blkLt HJ.out.1.blk;simp only at hltC;have hfin:Hid (tellQ sd xs' told'=(xs',told')→∃v':CliV,CliAt wr win v' ⟨sd,st,(tellQ sd xs told).1,(tellQ sd xs told).2⟩∧v'.k.C=C∧v'.k.R=R∧Chg F w wr∧Later w F v'.foot∧∃n,v'.qi=qi.drop n∧(tellQ sd xs told).1=xs.drop n):=fun e=>by
   obtain⟨b1,b2,b3,⟨b4,n,b5,b6⟩,b7,b8⟩:=HJ.out;refine⟨⟨⟨C,R,ch,t,hb,wv',bp',bv',qi'.map (·.q)⟩,qi'⟩,?_,rfl,rfl,b7,b8,n,b5,?_⟩
   ·rw[←b4,e];exact⟨b1,rfl,b2,b3⟩
   ·rw[←b4,e];exact b6
  cases xs' with
  |nil=>
   have hwv:∃a c,wv'= .slice a 0 c:=by
    rcases HJ.out.1.row.2 with⟨e,_⟩|⟨g,cap,cur,e,_⟩
    ·exact⟨_,_,e⟩
    ·exact⟨_,_,e⟩
   obtain⟨wa,wc,rfl⟩:=hwv;go_wp2;go_end0;exact⟨rfl,hfin.out rfl⟩
  |cons c cs=>
   obtain⟨v0,qi2,rfl⟩:∃q qi2,qi'=q::qi2:=by
    cases qi' with
    |nil=>have:=HJ.out.2.1.len;simp at this
    |cons q qs2=>exact⟨q,qs2,rfl⟩
   obtain⟨g,cap,rfl,hgc⟩:∃g cap,wv'= .slice (some ⟨g,0,none⟩) (cs.length+1) cap∧cs.length+1≤cap:=by
    rcases HJ.out.1.row.2 with⟨_,h0⟩|⟨g,cap,cur,e,_,_,h2,_⟩
    ·simp at h0
    ·simp at e h2;exact⟨g,cap,e,h2⟩
   have hqs:qi2.length=cs.length:=by have:=HJ.out.2.1.len;simpa using this
   obtain⟨q,hqq⟩:∃q,v0.q=q:=⟨_,rfl⟩
   have HQQ:=hide' hqq;have hg0:wr.cell? ⟨g,0,none⟩=some (.pointer (some ⟨q,0,none⟩)):=by
    rcases HJ.out.1.row.2 with⟨e,_⟩|⟨g',cap',cur,e,_,h1,_,_,_,h5⟩
    ·cases e
    ·simp at e;obtain⟨rfl,_⟩:=e;rw[blkCell h1 0];have h6:(cur.toList.take (((c::cs).map (·.c)).length*1))[0]?=(((v0::qi2).map (·.q)).map ptrV)[0]?:=by rw[h5]
     rw[List.getElem?_take_of_lt (by simp)]at h6;simpa [ptrV,hqq]using h6
   have hgl:g<wr.heap.size:=World.block_lt_of_cell? wr ⟨g,0,none⟩ hg0;have hQ:=HJ.out.2.1.tail.1;have hqb:=hQ.blk;rw[hqq]at hqb;unfold qdO at hqb;have HAd:=hide' (fun W (hW:Below wr.heap.size wr W)=>answered_any q _ _ _ _ _ _ _ _ _ _ _ W ((hW.block q (blkLt hqb)).trans hqb));have hqlt:=blkLt hqb;have hcok:=HJ.out.2.2.1 c (by simp);by_cases hk:c.n=0
   ·have hdk:decide (((qdOf v0 c).n:Int)=0)=true:=decide_eq_true (by show(c.n:Int)=0;omega);rw[hdk]at HAd;have htl:tellQ sd (c::cs) told'=tellQ sd cs (told'++(toldB sd c).data.toList):=by conv=>lhs;unfold tellQ;rw[if_pos hk]
    have HTL:=hide' (And.intro htl hk);have HAn:=hide' (fun W (hW:Below wr.heap.size wr W)=>hQ.answers hcok W hW);have HTt:=hide' (fun W (hW:Below wr.heap.size wr W)=>hQ.tells (d:=sd) hd3 hcok W hW);rw[hqq]at HAn;rw[hf]at HTt;unfold cmdV6 at HTt;generalize ansQ v0 c=av at HAn HTt;generalize hkv:v0.kv=kv at*;have hqb3:=hqb;unfold quO at hqb3;have q0:=blkCell hqb3 0;have q1:=blkCell hqb3 1;have q2:=blkCell hqb3 2;have q3:=blkCell hqb3 3;have q4:=blkCell hqb3 4;have q5:=blkCell hqb3 5;simp at q0 q1 q2 q3 q4 q5;rw[show(qdOf v0 c).kv=kv from hkv]at q1;change wr.cell? ⟨q,0,none⟩=some (.int .i64 c.c.kind)at q0;change wr.cell? ⟨q,2,none⟩=some (.string c.c.val)at q2;change wr.cell? ⟨q,3,none⟩=some (.string c.c.word)at q3
    change wr.cell? ⟨q,4,none⟩=some (.bool c.c.fatal)at q4;change wr.cell? ⟨q,5,none⟩=some (.int .i64 c.c.id)at q5;obtain⟨⟨rv,ru,hD,_⟩,_⟩:=HJ.out.1.rd;simp only at hD;unfold rdO at hD;have r0:=blkCell hD 0;simp at r0;have hRl:=blkLt hD;have hszW:=toldB_size (d:=sd) hd3 hcok;generalize hout:toldB sd c=out at*;have HOUT:=hide' hout;have HBw:Hid (∀W,Below wr.heap.size wr W→Calls Tryz.prog 128 #[.pointer (some ⟨C,3,none⟩),.string out] W fun e w'=>(∃v,e= .returned v)∧∃v',w'.heap[C]?=some (clO R ch (.slice (some ⟨g,0,none⟩) (cs.length+1) cap) (.pointer (some ⟨C,3,none⟩)) v')∧BldRow w' v' (told'++out.data.toList)∧Chg (C::bv'.ownBlock.toList) W w'∧(v'.ownBlock=bv'.ownBlock∨∃g,v'.ownBlock=some g∧W.heap.size≤g)):=fun W hW=>by
     have hbl:=HJ.out.1.bld;refine(bld_write C 3 125 5 _ bv' told' out W ((hW.block C hltC).trans HJ.out.1.blk) rfl (by omega) lies125 (by decide) ?_ rfl (hbl.other (fun g hg=>by obtain⟨cur,fz,hc⟩:=hbl.blk hg;exact hW.block g (blkLt hc))) (by simp at hl';have hsz:out.size≤1000:=hszW;omega)).mono ?_
     ·rcases HJ.out.1.bpv with h|h
      ·exact .inl (by simp only at h;rw[h];rfl)
      ·exact .inr (by simp only at h;rw[h];rfl)
     ·rintro e w' ⟨he,v',h1,h2,h3,h4⟩;exact⟨he,v',h1,h2,h3,h4⟩
    have hRn:R∉C::bv'.ownBlock.toList:=by
     intro hm';rcases List.mem_cons.1 hm' with h|h
     ·have hb0:=HJ.out.1.blk;simp only at hb0;rw[←h,hD]at hb0;unfold clO at hb0;cases hb0
     ·obtain⟨cur,fz,hc⟩:=HJ.out.1.bld.blk (mem_own h);rw[hD]at hc;cases hc
    have hqn:q∉C::bv'.ownBlock.toList:=by
     intro hm';rcases List.mem_cons.1 hm' with h|h
     ·have hb0:=HJ.out.1.blk;simp only at hb0;rw[←h,hqb3]at hb0;unfold clO at hb0;cases hb0
     ·obtain⟨cur,fz,hc⟩:=HJ.out.1.bld.blk (mem_own h);rw[hqb3]at hc;cases hc
    clear hdk htl hqb hqb3 hQ hcok hD hout hk hkv hqq;go_wp2_with fail
    go_at_call 127;refine(HAd.out _ (Below.refl _ _)).mono ?_;rintro e w1 ⟨rfl,hw1⟩;subst hw1;go_wp2_with fail
    go_region_held3 (fun W'=>W'.cell? ⟨C,0,none⟩=some (.pointer (some ⟨R,0,none⟩))∧W'.cell? ⟨R,0,none⟩=some (.iface t (.agg #[]))∧W'.cell? ⟨q,0,none⟩=some (.int .i64 c.c.kind)∧W'.cell? ⟨q,1,none⟩=some kv∧W'.cell? ⟨q,2,none⟩=some (.string c.c.val)∧W'.cell? ⟨q,3,none⟩=some (.string c.c.word)∧W'.cell? ⟨q,4,none⟩=some (.bool c.c.fatal)∧W'.cell? ⟨q,5,none⟩=some (.int .i64 c.c.id)) (go_keep) (first
     |(go_at_call 129;refine(HAn.out _ ?hx).mono ?_;(case hx=>repeat(first|with_reducible exact Below.refl _ _|with_reducible refine Below.drew ?_));rintro e w3 ⟨rfl,hb3⟩;have HB3:=hide' (below_undrew hb3);have x0:=(HB3.out.cell (p:=⟨C,0,none⟩) hltC).trans c0;have x1:=(HB3.out.cell (p:=⟨R,0,none⟩) hRl).trans r0;have x2:=(HB3.out.cell (p:=⟨q,0,none⟩) hqlt).trans q0;have x3:=(HB3.out.cell (p:=⟨q,1,none⟩) hqlt).trans q1;have x4:=(HB3.out.cell (p:=⟨q,2,none⟩) hqlt).trans q2;have x5:=(HB3.out.cell (p:=⟨q,3,none⟩) hqlt).trans q3;have x6:=(HB3.out.cell (p:=⟨q,4,none⟩) hqlt).trans q4;have x7:=(HB3.out.cell (p:=⟨q,5,none⟩) hqlt).trans q5;have hltC3:C<w3.heap.size:=Nat.lt_of_lt_of_le hltC HB3.out.size;have hRl3:R<w3.heap.size:=Nat.lt_of_lt_of_le hRl HB3.out.size;have hqlt3:q<w3.heap.size:=Nat.lt_of_lt_of_le hqlt HB3.out.size;clear hb3 c0 r0 q0 q1 q2 q3 q4 q5)
     |(with_reducible (show Calls Tryz.prog f _ _ _);refine(HTt.out _ ?hx).mono ?_;(case hx=>exact HB3.out);rintro e w4 ⟨rfl,hb4⟩;have HB4:=hide' hb4;have y0:=(HB4.out.cell (p:=⟨C,0,none⟩) hltC3).trans x0;have y1:=(HB4.out.cell (p:=⟨R,0,none⟩) hRl3).trans x1;have y2:=(HB4.out.cell (p:=⟨q,0,none⟩) hqlt3).trans x2;have y3:=(HB4.out.cell (p:=⟨q,1,none⟩) hqlt3).trans x3;have y4:=(HB4.out.cell (p:=⟨q,2,none⟩) hqlt3).trans x4;have y5:=(HB4.out.cell (p:=⟨q,3,none⟩) hqlt3).trans x5;have y6:=(HB4.out.cell (p:=⟨q,4,none⟩) hqlt3).trans x6;have y7:=(HB4.out.cell (p:=⟨q,5,none⟩) hqlt3).trans x7;clear hb4 x0 x1 x2 x3 x4 x5 x6 x7)
     |(go_at_call 128;refine(HBw.out _ ?hx).mono ?_;(case hx=>exact HB3.out.trans (HB4.out.mono HB3.out.size));rintro e w5 ⟨⟨ev,rfl⟩,v5,h1,h2,h3,h4⟩;have z0:=(clCells h1).1;have z1:=(World.cell?_of_block (a:=⟨R,0,none⟩) (h3.block R (Nat.lt_of_lt_of_le hRl3 HB4.out.size) hRn)).trans y1;have z2:=(World.cell?_of_block (a:=⟨q,0,none⟩) (h3.block q (Nat.lt_of_lt_of_le hqlt3 HB4.out.size) hqn)).trans y2;have z3:=(World.cell?_of_block (a:=⟨q,1,none⟩) (h3.block q (Nat.lt_of_lt_of_le hqlt3 HB4.out.size) hqn)).trans y3;have z4:=(World.cell?_of_block (a:=⟨q,2,none⟩) (h3.block q (Nat.lt_of_lt_of_le hqlt3 HB4.out.size) hqn)).trans y4;have z5:=(World.cell?_of_block (a:=⟨q,3,none⟩) (h3.block q (Nat.lt_of_lt_of_le hqlt3 HB4.out.size) hqn)).trans y5;have z6:=(World.cell?_of_block (a:=⟨q,4,none⟩) (h3.block q (Nat.lt_of_lt_of_le hqlt3 HB4.out.size) hqn)).trans y6;have z7:=(World.cell?_of_block (a:=⟨q,5,none⟩) (h3.block q (Nat.lt_of_lt_of_le hqlt3 HB4.out.size) hqn)).trans y7;have H5:=hide' (And.intro h1 (And.intro h2 (And.intro h3 h4)));clear h1 h2 h3 h4 y0 y1 y2 y3 y4 y5 y6 y7)
     |fail)
    rename_i hHeld;clear hHeld;have hk4:=HJ.out.1.below (HB3.out.trans (HB4.out.mono HB3.out.size));have hk5:=hk4.wrote v5 (told'++out.data.toList) H5.out.1 H5.out.2.1 H5.out.2.2.1 H5.out.2.2.2;have HK5:=hide' (And.intro hk5 (Chg.of_below (M:=[]) (HB3.out.trans (HB4.out.mono HB3.out.size))));have hrow5:=hk5.1.row;simp only[List.map_cons,List.length_cons,List.length_map]at hrow5;rw[←hqs,HQQ.out]at hrow5;have hql:(qi2.map (·.q)).length=qi2.length:=List.length_map _;rw[←hql]at hrow5;have HDl:=hide' (delFirst g cap q (qi2.map (·.q)) w5 hrow5);rw[hql,hqs]at HDl;have f2:=(clCells H5.out.1).2.2.1;have hlt5:=blkLt H5.out.1;clear hrow5 hk4 hk5 z0 z1 z2 z3 z4 z5 z6 z7 c1 c2 c3 c4 cf hg0 hgl;go_wp2_with fail
    go_at_call 130;refine HDl.out.mono ?_;rintro e w6 ⟨rfl,h6,k6⟩;have hC6:=k6.keep H5.out.1 (by simp;intro e;exact HK5.out.1.1.nC.2.2.2.1 (by simp only[e];rfl));have d2:=(clCells hC6).2.2.1;have df:=(clCells hC6).2.2.2.2.2 2;have hlt6:=blkLt hC6;have H6:=hide' (And.intro hC6 (And.intro h6 k6));clear hC6 h6 k6;go_upto_region 4 with fail
    obtain⟨buf,sa,ra,tm,hch5,hbs⟩:=HK5.out.1.1.chan;simp only[List.map_cons,List.length_cons,List.length_map]at hch5 hbs;have hgch:=(HK5.out.1.1.nW (g:=g) rfl).1;have hcC:=HK5.out.1.1.nC.1;simp only at hgch hcC;have hch6:=H6.out.2.2.keep hch5 (by simp;exact fun e=>hgch e.symm);have hch7:(w6.setCell ⟨C,2,none⟩ (.slice (some ⟨g,0,none⟩) cs.length cap)).heap[ch]?=some (.chan win buf false sa ra tm):=(Below.heap_setCell w6 ⟨C,2,none⟩ _ ch (fun e=>hcC e.symm)).trans hch6;have hC7:=blkSet (i:=2) H6.out.1 (.slice (some ⟨g,0,none⟩) cs.length cap);have e1:=(clCells (R:=R) (ch:=ch) (wv:= .slice (some ⟨g,0,none⟩) cs.length cap) (bp:= .pointer (some ⟨C,3,none⟩)) (bv:=v5) hC7).2.1;have HC7:=hide' hch7;clear hch7 hC7 hch5 hch6 hgch hcC
    generalize hw7:w6.setCell ⟨C,2,none⟩ (.slice (some ⟨g,0,none⟩) cs.length cap)=w7 at*;refine wp_of_reg ?_;show RegWp _ _ [0,1,2,3,4] _ _ _;refine reg_value (v:= .pointer (some ⟨C,0,none⟩)) (w':=w7) rfl rfl (by simp[go_sem,execOp,Act.eval]) ?_;refine reg_value (v:= .pointer (some ⟨C,0,none⟩)) (w':=w7) rfl rfl (by simp[go_sem,execOp,Act.eval,Act.put]) ?_;refine reg_value (v:= .pointer (some ⟨C,1,none⟩)) (w':=w7) rfl rfl (by simp[go_sem,execOp,Act.eval,Act.put]) ?_;refine reg_value (v:= .chan (some ch)) (w':=w7) rfl rfl (by simp[go_sem,execOp,Act.eval,Act.put,e1]) ?_;refine reg_recv (c:=ch) (z:= .agg #[]) rfl rfl (by simp[go_sem,execOp,rcase,Act.eval,Act.put]) HC7.out (by omega) ?_;refine reg_end ?_
    simp only[Act.put]
    have hpop:=HK5.out.1.1.popped (c:=c.c) (cs:=cs.map (·.c)) (q:=v0.q) (qs:=qi2.map (·.q)) (g:=g) (cap:=cap) rfl rfl (by rw[hql,hqs]) (by rw[hql,hqs];exact H6.out.2.1) H6.out.2.2 (buf.extract 1 buf.size) sa (ra+1) tm (by simp;omega) rfl;simp only[hql,hqs,hw7]at hpop;have hml:=hpop.1.waitLen;simp only[List.length_map]at hml;have hml0:=HJ.out.1.waitLen;simp only[List.map_cons,List.length_cons,List.length_map]at hml0;have HP:=hide' hpop;clear hpop;generalize w7.setChan ch win (buf.extract 1 buf.size) false sa (ra+1) tm=w8 at*;have HM:=hide' (show waitLen w8 C<waitLen w1 C by omega);clear hml hml0;obtain⟨b1,b2,b3,⟨b4,n,b5,b6⟩,b7,b8⟩:=HJ.out;have sz14:=HK5.out.2.size;have hww1:w.heap.size≤w1.heap.size:=b7.size
    have hqu8:QusAt w8 qi2 cs:=by
     refine b2.tail.2.keep (fun b hb=>?_);obtain⟨Z,T,hZ,hT⟩:=b2.tail.2.kind b hb;have hna:=b1.apart hZ (by rcases hT with e|e|e<;>(subst e;decide));have hbl:=blkLt hZ;have h45:=HK5.out.1.2.1.block b (Nat.lt_of_lt_of_le hbl sz14) hna;have h14:=HK5.out.2.block b hbl (by simp);have h58:=HP.out.2.1.block b (Nat.lt_of_lt_of_le hbl (Nat.le_trans sz14 HK5.out.1.2.1.size)) (fun hm=>by
      rcases HK5.out.1.2.2 b hm with h9|h9
      ·exact hna h9
      ·have:=Nat.lt_of_lt_of_le hbl sz14;omega)
     exact h58.trans (h45.trans h14)
    have hl1:Later w F (CliI.foot ⟨C,R,ch,t,hb,.slice (some ⟨g,0,none⟩) (cs.length+1) cap,bp',bv',(v0::qi2).map (·.q)⟩):=fun b hb=>b8 b (List.mem_append.2 (.inl hb))
    have hl5:=hl1.trans HK5.out.1.2.2 (Nat.le_trans hww1 sz14);have hchg:=((b7.trans HK5.out.2 (fun b hm=>by cases hm)).trans HK5.out.1.2.1 hl1).trans HP.out.2.1 hl5;have hl8:Later w F (CliV.foot ⟨⟨C,R,ch,t,hb,.slice (some ⟨g,0,none⟩) cs.length cap,.pointer (some ⟨C,3,none⟩),v5,qi2.map (·.q)⟩,qi2⟩):=fun b hb=>by
     rcases List.mem_append.1 hb with hb|hb
     ·rw[HP.out.2.2]at hb;exact hl5 b hb
     ·exact b8 b (List.mem_append.2 (.inr (by rw[feetQ_cons];exact List.mem_append.2 (.inr hb))))
    have hbd:(told'++out.data.toList).length+1000*cs.length≤100000000000:=by
     rw[List.length_append];have h9:out.data.toList.length≤1000:=by rw[Array.length_toList];exact hszW
     have h10:told'.length+1000*(cs.length+1)≤100000000000:=hl';clear hl' hwn' hbs hszW;omega
    have hbd2:cs.length≤1000:=by simp only[List.length_cons]at hwn';omega
    refine⟨?_,HM.out⟩;(repeat apply Exists.intro)
    refine⟨?_,rfl⟩;exact⟨_,_,_,qi2,cs,told'++out.data.toList,hbd,hbd2,HP.out.1,hqu8,fun x hx=>b3 x (List.mem_cons_of_mem _ hx),⟨HTL.out.1.symm.trans b4,n+1,drop_tl b5,drop_tl b6⟩,hchg,hl8⟩
   ·have hdk:decide (((qdOf v0 c).n:Int)=0)=false:=decide_eq_false (by show¬(c.n:Int)=0;omega);rw[hdk]at HAd;have htl:tellQ sd (c::cs) told'=(c::cs,told'):=by unfold tellQ;rw[if_neg hk]
    have HTL:=hide' htl;clear hdk hk htl hqb hQ hcok;go_wp2_with fail
    go_at_call 127;refine(HAd.out _ (Below.refl _ _)).mono ?_;rintro e w1 ⟨rfl,hw1⟩;subst hw1;go_wp2;go_end0;exact⟨rfl,hfin.out HTL.out⟩
theorem cliTell1 (win:Nat)(v:CliV)(s:CliQ)(w:World)(h:CliAt w win v s)(ht:v.k.t=160)(hd:s.d=1)(hl:s.told.length+1000*s.qs.length≤100000000000)(hwn:s.qs.length≤1000):
 Calls Tryz.prog 89 #[.pointer (some ⟨v.k.C,0,none⟩)] w fun e w'=>e= .returned (.tuple #[])∧∃v',CliAt w' win v' {s with qs:=(tellQ s.d s.qs s.told).1,told:=(tellQ s.d s.qs s.told).2}∧v'.k.C=v.k.C∧v'.k.R=v.k.R∧Chg v.foot w w'∧Later w v.foot v'.foot∧∃n,v'.qi=v.qi.drop n∧(tellQ s.d s.qs s.told).1=s.qs.drop n:=cliTellP win v s w h 160 212 1 ht hd (by omega) m_tell1 (fun w=>by kernel_rfl) (fun xs w=>by simp[callFunc,go_sem,Tryz.func212];kernel_rfl) rfl hl hwn
theorem cliTell2 (win:Nat)(v:CliV)(s:CliQ)(w:World)(h:CliAt w win v s)(ht:v.k.t=161)(hd:s.d=2)(hl:s.told.length+1000*s.qs.length≤100000000000)(hwn:s.qs.length≤1000):
 Calls Tryz.prog 89 #[.pointer (some ⟨v.k.C,0,none⟩)] w fun e w'=>e= .returned (.tuple #[])∧∃v',CliAt w' win v' {s with qs:=(tellQ s.d s.qs s.told).1,told:=(tellQ s.d s.qs s.told).2}∧v'.k.C=v.k.C∧v'.k.R=v.k.R∧Chg v.foot w w'∧Later w v.foot v'.foot∧∃n,v'.qi=v.qi.drop n∧(tellQ s.d s.qs s.told).1=s.qs.drop n:=cliTellP win v s w h 161 245 2 ht hd (by omega) m_tell2 (fun w=>by kernel_rfl) (fun xs w=>by simp[callFunc,go_sem,Tryz.func245];kernel_rfl) rfl hl hwn
theorem cliTell3 (win:Nat)(v:CliV)(s:CliQ)(w:World)(h:CliAt w win v s)(ht:v.k.t=162)(hd:s.d=3)(hl:s.told.length+1000*s.qs.length≤100000000000)(hwn:s.qs.length≤1000):
 Calls Tryz.prog 89 #[.pointer (some ⟨v.k.C,0,none⟩)] w fun e w'=>e= .returned (.tuple #[])∧∃v',CliAt w' win v' {s with qs:=(tellQ s.d s.qs s.told).1,told:=(tellQ s.d s.qs s.told).2}∧v'.k.C=v.k.C∧v'.k.R=v.k.R∧Chg v.foot w w'∧Later w v.foot v'.foot∧∃n,v'.qi=v.qi.drop n∧(tellQ s.d s.qs s.told).1=s.qs.drop n:=cliTellP win v s w h 162 252 3 ht hd (by omega) m_tell3 (fun w=>by kernel_rfl) (fun xs w=>by simp[callFunc,go_sem,Tryz.func252];kernel_rfl) rfl hl hwn
end Go.Proofs.YtlonjggfnleolaaGreatDoor
