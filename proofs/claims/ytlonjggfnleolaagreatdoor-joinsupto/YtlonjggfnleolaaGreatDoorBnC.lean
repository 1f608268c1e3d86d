import Derived.Test.YtlonjggfnleolaaGreatDoorAnB
import Derived.Test.YtlonjggfnleolaaGreatDoorRjH
namespace Go.Proofs.YtlonjggfnleolaaGreatDoor
open Go.RowKit
set_option linter.unusedVariables false
set_option maxHeartbeats 4000000
set_option maxRecDepth 20000
theorem byteCells_append (l m:List UInt8):Lib.byteCells (l++m)=Lib.byteCells l++Lib.byteCells m:=by simp[Lib.byteCells]
theorem tellFound_any (a fa va:Option Addr)(n c fc vc:Nat)(ss:List ByteArray)(bs:List Bool)(vs:List ByteArray)(wd:ByteArray)(w:World)(hs:StrsIn w a n c ss)(hf:BoolsIn w fa n fc bs)(hv:StrsIn w va n vc vs)(hn:n≤4)(hk8:∀s∈ss,s.size≤8)(hv40:∀s∈vs,s.size≤40):Calls Tryz.prog 219 #[.slice a n c,ansV 1 (.slice fa n fc) (.slice va n vc) wd] w fun e w'=>e= .returned (.string (liFold (bs.zip (ss.zip vs))++⟨#[101,110,100,10]⟩))∧Below w.heap.size w w':=by
 have HB1:=hide' (show∀x,Below w.heap.size w (w.alloc x)from fun x=>(Below.refl _ _).alloc (Nat.le_refl _) _);have hc:=hs.cap;have hfc:=hf.cap;have hvc:=hv.cap;have HSx:=hide' (fun W (h:Below w.heap.size w W)=>(hs.later h).at);have HFx:=hide' (fun W (h:Below w.heap.size w W)=>(hf.later h).at);have HVx:=hide' (fun W (h:Below w.heap.size w W)=>(hv.later h).at);have HSL:=hide' hs.len;have HFL:=hide' hf.len;have HVL:=hide' hv.len;have HK8:=hide' hk8;have HV40:=hide' hv40;have hts:∀j:Nat,(liFold ((bs.zip (ss.zip vs)).take j)).size≤236:=fun j=>by
  have h1:=liFoldA_size ⟨#[]⟩ ((bs.zip (ss.zip vs)).take j) (fun p hp=>by
   have hp:=List.mem_of_mem_take hp;have h2:=(List.of_mem_zip hp).2;exact⟨hk8 _ (List.of_mem_zip h2).1,hv40 _ (List.of_mem_zip h2).2⟩)
  have h2:((bs.zip (ss.zip vs)).take j).length≤4:=by simp[hs.len,hf.len,hv.len];omega
  have e0:(ByteArray.mk #[]).size=0:=rfl;unfold liFold;omega
 have HTS:=hide' hts;clear hs hf hv hk8 hv40 hts;have HZ:Hid (∀(j:Nat) f k v,bs[j]?=some f→ss[j]?=some k→vs[j]?=some v→(bs.zip (ss.zip vs))[j]?=some (f,k,v)):=fun j f k v a b c=>by
  rw[List.getElem?_zip_eq_some];exact⟨a,by rw[List.getElem?_zip_eq_some];exact⟨b,c⟩⟩
 have HTL:Hid ((bs.zip (ss.zip vs)).take n=bs.zip (ss.zip vs)):=List.take_of_length_le (by simp;have:=HFL.out;omega);generalize bs.zip (ss.zip vs)=ts at*;unfold ansV at*;have HI:Hid (∀W:World,Lib.IsBuilder 123 5 W.heap.size W.heap.size [] (W.alloc (Obj.cells #[Value.pointer none,Value.slice none 0 0] 123))):=fun W=> .inl ⟨Nat.le_refl _,.slice none 0 0,blkNew W _,World.ownsRow_nil _ _ _ _,by simp[Value.ownBlock]⟩
 go_enter Tryz.func219,Tryz.ntmps219;go_wp2;have H0:Hid (Lib.IsBuilder 123 5 (w.heap.size+1) (w.heap.size+1) (Lib.byteCells (liFold (ts.take 0)).data.toList) ((w.alloc (.cells #[.int .i64 1,.slice fa n fc,.slice va n vc,.string wd] 91)).alloc (Obj.cells #[Value.pointer none,Value.slice none 0 0] 123))∧Below (w.heap.size+1) (w.alloc (.cells #[.int .i64 1,.slice fa n fc,.slice va n vc,.string wd] 91)) ((w.alloc (.cells #[.int .i64 1,.slice fa n fc,.slice va n vc,.string wd] 91)).alloc (Obj.cells #[Value.pointer none,Value.slice none 0 0] 123))):=by
  have h1:=HI.out (w.alloc (.cells #[.int .i64 1,.slice fa n fc,.slice va n vc,.string wd] 91));rw[World.size_alloc]at h1;exact⟨h1,(Below.refl _ _).alloc (by simp) _⟩
 go_loopw [10] (fun i wr=>∃j:Nat,j≤n∧i= .int .i64 j∧Hid (Lib.IsBuilder 123 5 (w.heap.size+1) (w.heap.size+1) (Lib.byteCells (liFold (ts.take j)).data.toList) wr∧Below (w.heap.size+1) (w.alloc (.cells #[.int .i64 1,.slice fa n fc,.slice va n vc,.string wd] 91)) wr)) (fun i _=>n-(intOf i).toNat)
 case atStart=>exact⟨0,Nat.zero_le _,rfl,H0⟩
 case round=>
  obtain⟨j,hj,rfl,HJ⟩:=hrel;have HBW:Hid (Below w.heap.size w wr):=(HB1.out _).trans (HJ.out.2.mono (by omega));have hsz:w.heap.size+1≤wr.heap.size:=by have:=HJ.out.2.size;simpa using this
  have hsz':w.heap.size<wr.heap.size:=by omega
  by_cases hlt:j<n
  ·obtain⟨k,hk⟩:∃x,ss[j]?=some x:=⟨ss[j]'(by rw[HSL.out];exact hlt),List.getElem?_eq_getElem _⟩
   obtain⟨f,hf⟩:∃x,bs[j]?=some x:=⟨bs[j]'(by rw[HFL.out];exact hlt),List.getElem?_eq_getElem _⟩
   obtain⟨x,hx⟩:∃x,vs[j]?=some x:=⟨vs[j]'(by rw[HVL.out];exact hlt),List.getElem?_eq_getElem _⟩
   have HX:=hide' (liFold_step (HZ.out j f k x hf hk hx));have hm:=HK8.out k (List.mem_of_getElem? hk);have hx40:=HV40.out x (List.mem_of_getElem? hx);obtain⟨kb,ko,rfl,hkb,hkc⟩:=HSx.out wr HBW.out j k hk;obtain⟨fb,fo,rfl,hfb,hfcc⟩:=HFx.out wr HBW.out j f hf;obtain⟨vb,vo,rfl,hvb,hvcc⟩:=HVx.out wr HBW.out j x hx;have q1:wr.cell? ⟨w.heap.size,1,none⟩=some (.slice (some ⟨fb,fo,none⟩) n fc):=by
    rw[HJ.out.2.cell (p:=⟨w.heap.size,1,none⟩) (by simp)];go_simp
   have q2:wr.cell? ⟨w.heap.size,2,none⟩=some (.slice (some ⟨vb,vo,none⟩) n vc):=by
    rw[HJ.out.2.cell (p:=⟨w.heap.size,2,none⟩) (by simp)];go_simp
   clear hk hf hx HSx HFx HVx HZ;have hzs:=sizedB_size hx40;have hln:=HTS.out j;have hl5:(liFold (ts.take j)).data.toList.length≤236:=by rw[len_size];exact hln
   cases f with
   |true=>
    have hvz:(ByteArray.mk #[118,97,108,117,101,32]++k++ByteArray.mk #[32]++sizedB x).size≤59:=valB_size (p:=(true,k,x)) hm hx40;have HY:Hid (Lib.byteCells (liFold (ts.take j)).data.toList++Lib.strCells (ByteArray.mk #[118,97,108,117,101,32]++k++ByteArray.mk #[32]++sizedB x)=Lib.byteCells (liFold (ts.take (j+1))).data.toList):=by
     show _=_;rw[HX.out,Lib.strCells_eq,←byteCells_append];congr 1
    clear HX;have g1:¬9223372036854775807<6+k.size:=by omega
    have g2:¬9223372036854775807<6+k.size+1:=by omega
    have g3:¬9223372036854775807<6+k.size+1+(sizedB x).size:=by omega
    go_wp2_with fail
    go_at_call 215;refine(sized_any' x _ (by omega)).mono ?_;rintro e w3 ⟨rfl,hw3⟩;subst hw3;go_wp2_with fail
    go_at_call 128;generalize (ByteArray.mk #[118,97,108,117,101,32]++k++ByteArray.mk #[32]++sizedB x)=V at*;refine(Tryz.writeString (w.heap.size+1) (w.heap.size+1) _ V _ HJ.out.1 ?hl1 ?hl2).mono ?_;case hl1=>rw[Lib.byteCells_length];omega
    case hl2=>exact hsz
    rintro e w4 ⟨rfl,hBA,hb4⟩;rw[HY.out]at hBA;have HN4:Hid (Lib.IsBuilder 123 5 (w.heap.size+1) (w.heap.size+1) (Lib.byteCells (liFold (ts.take (j+1))).data.toList) w4∧Below (w.heap.size+1) (w.alloc (.cells #[.int .i64 1,.slice (some ⟨fb,fo,none⟩) n fc,.slice (some ⟨vb,vo,none⟩) n vc,.string wd] 91)) w4):=⟨.inr hBA,HJ.out.2.trans hb4⟩
    clear hBA hb4;go_wp2;go_roundw;case rel=>exact⟨j+1,by omega,by go_num,HN4⟩
    case measure=>simp[intOf];omega
   |false=>
    have HN4:Hid (Lib.IsBuilder 123 5 (w.heap.size+1) (w.heap.size+1) (Lib.byteCells (liFold (ts.take (j+1))).data.toList) wr∧Below (w.heap.size+1) (w.alloc (.cells #[.int .i64 1,.slice (some ⟨fb,fo,none⟩) n fc,.slice (some ⟨vb,vo,none⟩) n vc,.string wd] 91)) wr):=by
     have e:liFold (ts.take (j+1))=liFold (ts.take j):=by rw[HX.out];apply ba_ext;simp[valB]
     rw[e];exact HJ.out
    clear HX;go_wp2;go_roundw;case rel=>exact⟨j+1,by omega,by go_num,HN4⟩
    case measure=>simp[intOf];omega
  ·have hj2:j=n:=by omega
   subst hj2;have hln:=HTS.out j;have HR:=hide' (show ByteArray.mk (liFold (ts.take j)).data.toList.toArray++⟨#[101,110,100,10]⟩=liFold ts++⟨#[101,110,100,10]⟩by rw[HTL.out]);have hz6:(ByteArray.mk (liFold (ts.take j)).data.toList.toArray).size≤236:=by simpa using hln
   go_wp2_with fail
   go_at_call 57;refine(Tryz.Builder_String_any (w.heap.size+1) (w.heap.size+1) _ _ HJ.out.1 hsz).mono ?_;rintro e w5 ⟨rfl,hb5⟩;have HE:Hid (Below w.heap.size w w5):=HBW.out.trans (hb5.mono (by omega));clear hb5;generalize ByteArray.mk (liFold (ts.take j)).data.toList.toArray=S at*;go_wp2;go_ret;exact⟨ret_str HR.out,HE.out⟩
set_option maxHeartbeats 4000000
set_option maxRecDepth 20000
theorem tellTexts_one (fa va:Option Addr)(n fc vc:Nat)(bs:List Bool)(vs:List ByteArray)(wd:ByteArray)(w:World)(hf:BoolsIn w fa n fc bs)(hv:StrsIn w va n vc vs)(hn:n≤4)(h1:n=1)(hv40:∀s∈vs,s.size≤40):Calls Tryz.prog 257 #[ansV 1 (.slice fa n fc) (.slice va n vc) wd] w fun e w'=>e= .returned (.string (lsVals n (bs.zip vs)))∧Below w.heap.size w w':=by
 have HB1:=hide' (show∀x,Below w.heap.size w (w.alloc x)from fun x=>(Below.refl _ _).alloc (Nat.le_refl _) _);have hfc:=hf.cap;have hvc:=hv.cap;have HFx:=hide' (fun W (h:Below w.heap.size w W)=>(hf.later h).at);have HVx:=hide' (fun W (h:Below w.heap.size w W)=>(hv.later h).at);have HFL:=hide' hf.len;have HVL:=hide' hv.len;have HV40:=hide' hv40;have hts:∀j:Nat,(lsFold ((bs.zip vs).take j)).size≤180:=fun j=>by
  have h1:=lsFoldA_size ⟨#[]⟩ ((bs.zip vs).take j) (fun p hp=>hv40 _ (List.of_mem_zip (List.mem_of_mem_take hp)).2);have h2:((bs.zip vs).take j).length≤4:=by simp[hf.len,hv.len];omega
  have e0:(ByteArray.mk #[]).size=0:=rfl;unfold lsFold;omega
 have HTS:=hide' hts;clear hf hv hv40 hts;have HZ:Hid (∀(j:Nat) f v,bs[j]?=some f→vs[j]?=some v→(bs.zip vs)[j]?=some (f,v)):=fun j f v a c=>by
  rw[List.getElem?_zip_eq_some];exact⟨a,c⟩
 have HTL:Hid ((bs.zip vs).take n=bs.zip vs):=List.take_of_length_le (by simp;have:=HFL.out;omega);generalize bs.zip vs=ts at*;unfold ansV at*;have HI:Hid (∀W:World,Lib.IsBuilder 123 5 W.heap.size W.heap.size [] (W.alloc (Obj.cells #[Value.pointer none,Value.slice none 0 0] 123))):=fun W=> .inl ⟨Nat.le_refl _,.slice none 0 0,blkNew W _,World.ownsRow_nil _ _ _ _,by simp[Value.ownBlock]⟩
 have HI1:Hid (Lib.IsBuilder 123 5 (w.heap.size+1) (w.heap.size+1) [] ((w.alloc (.cells #[.int .i64 1,.slice fa n fc,.slice va n vc,.string wd] 91)).alloc (Obj.cells #[Value.pointer none,Value.slice none 0 0] 123))∧Below (w.heap.size+1) (w.alloc (.cells #[.int .i64 1,.slice fa n fc,.slice va n vc,.string wd] 91)) ((w.alloc (.cells #[.int .i64 1,.slice fa n fc,.slice va n vc,.string wd] 91)).alloc (Obj.cells #[Value.pointer none,Value.slice none 0 0] 123))):=by
  have h1:=HI.out (w.alloc (.cells #[.int .i64 1,.slice fa n fc,.slice va n vc,.string wd] 91));rw[World.size_alloc]at h1;exact⟨h1,(Below.refl _ _).alloc (by simp) _⟩
 clear HI;subst h1;go_enter Tryz.func257,Tryz.ntmps257;go_wp2;have H0:Hid (Lib.IsBuilder 123 5 (w.heap.size+1) (w.heap.size+1) (Lib.byteCells ([]++(lsFold (ts.take 0)).data.toList)) ((w.alloc (.cells #[.int .i64 1,.slice fa 1 fc,.slice va 1 vc,.string wd] 91)).alloc (Obj.cells #[Value.pointer none,Value.slice none 0 0] 123))∧Below (w.heap.size+1) (w.alloc (.cells #[.int .i64 1,.slice fa 1 fc,.slice va 1 vc,.string wd] 91)) ((w.alloc (.cells #[.int .i64 1,.slice fa 1 fc,.slice va 1 vc,.string wd] 91)).alloc (Obj.cells #[Value.pointer none,Value.slice none 0 0] 123))):=HI1.out;go_loopw [20] (fun i wr=>∃j:Nat,j≤1∧i= .int .i64 j∧Hid (Lib.IsBuilder 123 5 (w.heap.size+1) (w.heap.size+1) (Lib.byteCells ([]++(lsFold (ts.take j)).data.toList)) wr∧Below (w.heap.size+1) (w.alloc (.cells #[.int .i64 1,.slice fa 1 fc,.slice va 1 vc,.string wd] 91)) wr)) (fun i _=>1-(intOf i).toNat)
 case atStart=>exact⟨0,Nat.zero_le _,rfl,H0⟩
 case round=>
  obtain⟨j,hj,rfl,HJ⟩:=hrel;have HBW:Hid (Below w.heap.size w wr):=(HB1.out _).trans (HJ.out.2.mono (by omega));have hsz:w.heap.size+1≤wr.heap.size:=by have:=HJ.out.2.size;simpa using this
  have hsz':w.heap.size<wr.heap.size:=by omega
  by_cases hlt:j<1
  ·obtain⟨f,hf⟩:∃x,bs[j]?=some x:=⟨bs[j]'(by rw[HFL.out];exact hlt),List.getElem?_eq_getElem _⟩
   obtain⟨x,hx⟩:∃x,vs[j]?=some x:=⟨vs[j]'(by rw[HVL.out];exact hlt),List.getElem?_eq_getElem _⟩
   have HX:=hide' (lsFold_step (HZ.out j f x hf hx));have hx40:=HV40.out x (List.mem_of_getElem? hx);obtain⟨fb,fo,rfl,hfb,hfcc⟩:=HFx.out wr HBW.out j f hf;obtain⟨vb,vo,rfl,hvb,hvcc⟩:=HVx.out wr HBW.out j x hx;have q1:wr.cell? ⟨w.heap.size,1,none⟩=some (.slice (some ⟨fb,fo,none⟩) 1 fc):=by
    rw[HJ.out.2.cell (p:=⟨w.heap.size,1,none⟩) (by simp)];go_simp
   have q2:wr.cell? ⟨w.heap.size,2,none⟩=some (.slice (some ⟨vb,vo,none⟩) 1 vc):=by
    rw[HJ.out.2.cell (p:=⟨w.heap.size,2,none⟩) (by simp)];go_simp
   clear hf hx HFx HVx HZ;have hzs:=sizedB_size hx40;have hln:=HTS.out j;have hl5:(lsFold (ts.take j)).data.toList.length≤180:=by rw[len_size];exact hln
   cases f with
   |true=>
    have hvz:(ByteArray.mk #[36]++sizedB x).size≤45:=by rw[ByteArray.size_append];have e:(ByteArray.mk #[36]).size=1:=rfl;omega
    have HY:Hid (Lib.byteCells ([]++(lsFold (ts.take j)).data.toList)++Lib.strCells (ByteArray.mk #[36]++sizedB x)=Lib.byteCells ([]++(lsFold (ts.take (j+1))).data.toList)):=by
     show _=_;rw[HX.out,Lib.strCells_eq,←byteCells_append,List.append_assoc];congr 2
    clear HX;go_wp2_with fail
    go_at_call 215;refine(sized_any' x _ (by omega)).mono ?_;rintro e w3 ⟨rfl,hw3⟩;subst hw3;go_wp2_with fail
    go_at_call 128;generalize (ByteArray.mk #[36]++sizedB x)=V at*;refine(Tryz.writeString (w.heap.size+1) (w.heap.size+1) _ V _ HJ.out.1 ?hl1 ?hl2).mono ?_;case hl1=>rw[Lib.byteCells_length,List.length_append];simp only[List.length_nil];omega
    case hl2=>exact hsz
    rintro e w4 ⟨rfl,hBA,hb4⟩;rw[HY.out]at hBA;have HN4:Hid (Lib.IsBuilder 123 5 (w.heap.size+1) (w.heap.size+1) (Lib.byteCells ([]++(lsFold (ts.take (j+1))).data.toList)) w4∧Below (w.heap.size+1) (w.alloc (.cells #[.int .i64 1,.slice (some ⟨fb,fo,none⟩) 1 fc,.slice (some ⟨vb,vo,none⟩) 1 vc,.string wd] 91)) w4):=⟨.inr hBA,HJ.out.2.trans hb4⟩
    clear hBA hb4;go_wp2;go_roundw;case rel=>exact⟨j+1,by omega,by go_num,HN4⟩
    case measure=>simp[intOf];omega
   |false=>
    have HY:Hid (Lib.byteCells ([]++(lsFold (ts.take j)).data.toList)++Lib.strCells (ByteArray.mk #[36,45,49,10])=Lib.byteCells ([]++(lsFold (ts.take (j+1))).data.toList)):=by
     show _=_;rw[HX.out,Lib.strCells_eq,←byteCells_append,List.append_assoc];congr 2
    clear HX;go_wp2_with fail
    go_at_call 128;refine(Tryz.writeString (w.heap.size+1) (w.heap.size+1) _ (ByteArray.mk #[36,45,49,10]) _ HJ.out.1 ?hl1 ?hl2).mono ?_;case hl1=>rw[Lib.byteCells_length,List.length_append];simp only[List.length_nil];have e:(ByteArray.mk #[36,45,49,10]).size=4:=rfl;omega
    case hl2=>exact hsz
    rintro e w4 ⟨rfl,hBA,hb4⟩;rw[HY.out]at hBA;have HN4:Hid (Lib.IsBuilder 123 5 (w.heap.size+1) (w.heap.size+1) (Lib.byteCells ([]++(lsFold (ts.take (j+1))).data.toList)) w4∧Below (w.heap.size+1) (w.alloc (.cells #[.int .i64 1,.slice (some ⟨fb,fo,none⟩) 1 fc,.slice (some ⟨vb,vo,none⟩) 1 vc,.string wd] 91)) w4):=⟨.inr hBA,HJ.out.2.trans hb4⟩
    clear hBA hb4;go_wp2;go_roundw;case rel=>exact⟨j+1,by omega,by go_num,HN4⟩
    case measure=>simp[intOf];omega
  ·have hj2:j=1:=by omega
   subst hj2;have HR:=hide' (show ByteArray.mk ([]++(lsFold (ts.take 1)).data.toList).toArray=lsVals 1 ts by rw[HTL.out];simp[lsVals]);go_wp2_with fail
   go_at_call 57;refine(Tryz.Builder_String_any (w.heap.size+1) (w.heap.size+1) _ _ HJ.out.1 hsz).mono ?_;rintro e w5 ⟨rfl,hb5⟩;have HE:Hid (Below w.heap.size w w5):=HBW.out.trans (hb5.mono (by omega));clear hb5;rw[HR.out];go_wp2;go_ret;exact⟨ret_str rfl,HE.out⟩
theorem tellTexts_more (fa va:Option Addr)(n fc vc:Nat)(bs:List Bool)(vs:List ByteArray)(wd:ByteArray)(w:World)(hf:BoolsIn w fa n fc bs)(hv:StrsIn w va n vc vs)(hn:n≤4)(h1:2≤n)(hv40:∀s∈vs,s.size≤40):Calls Tryz.prog 257 #[ansV 1 (.slice fa n fc) (.slice va n vc) wd] w fun e w'=>e= .returned (.string (lsVals n (bs.zip vs)))∧Below w.heap.size w w':=by
 have HB1:=hide' (show∀x,Below w.heap.size w (w.alloc x)from fun x=>(Below.refl _ _).alloc (Nat.le_refl _) _);have hfc:=hf.cap;have hvc:=hv.cap;have HFx:=hide' (fun W (h:Below w.heap.size w W)=>(hf.later h).at);have HVx:=hide' (fun W (h:Below w.heap.size w W)=>(hv.later h).at);have HFL:=hide' hf.len;have HVL:=hide' hv.len;have HV40:=hide' hv40;have hts:∀j:Nat,(lsFold ((bs.zip vs).take j)).size≤180:=fun j=>by
  have h1:=lsFoldA_size ⟨#[]⟩ ((bs.zip vs).take j) (fun p hp=>hv40 _ (List.of_mem_zip (List.mem_of_mem_take hp)).2);have h2:((bs.zip vs).take j).length≤4:=by simp[hf.len,hv.len];omega
  have e0:(ByteArray.mk #[]).size=0:=rfl;unfold lsFold;omega
 have HTS:=hide' hts;clear hf hv hv40 hts;have HZ:Hid (∀(j:Nat) f v,bs[j]?=some f→vs[j]?=some v→(bs.zip vs)[j]?=some (f,v)):=fun j f v a c=>by
  rw[List.getElem?_zip_eq_some];exact⟨a,c⟩
 have HTL:Hid ((bs.zip vs).take n=bs.zip vs):=List.take_of_length_le (by simp;have:=HFL.out;omega);generalize bs.zip vs=ts at*;unfold ansV at*;have HI:Hid (∀W:World,Lib.IsBuilder 123 5 W.heap.size W.heap.size [] (W.alloc (Obj.cells #[Value.pointer none,Value.slice none 0 0] 123))):=fun W=> .inl ⟨Nat.le_refl _,.slice none 0 0,blkNew W _,World.ownsRow_nil _ _ _ _,by simp[Value.ownBlock]⟩
 have HI1:Hid (Lib.IsBuilder 123 5 (w.heap.size+1) (w.heap.size+1) [] ((w.alloc (.cells #[.int .i64 1,.slice fa n fc,.slice va n vc,.string wd] 91)).alloc (Obj.cells #[Value.pointer none,Value.slice none 0 0] 123))∧Below (w.heap.size+1) (w.alloc (.cells #[.int .i64 1,.slice fa n fc,.slice va n vc,.string wd] 91)) ((w.alloc (.cells #[.int .i64 1,.slice fa n fc,.slice va n vc,.string wd] 91)).alloc (Obj.cells #[Value.pointer none,Value.slice none 0 0] 123))):=by
  have h1:=HI.out (w.alloc (.cells #[.int .i64 1,.slice fa n fc,.slice va n vc,.string wd] 91));rw[World.size_alloc]at h1;exact⟨h1,(Below.refl _ _).alloc (by simp) _⟩
 clear HI;have h1':((n:Int)>1):=by omega
 have hst:=starL_len n;have dL:=dec100_size n;go_enter Tryz.func257,Tryz.ntmps257;go_wp2_with fail
 go_at_call 122;refine(itoa_any n _ (by omega)).mono ?_;rintro e w1 ⟨rfl,hw1⟩;subst hw1;generalize hl0:(ByteArray.mk #[42]++dec100 n++ByteArray.mk #[10])=l0 at*;go_wp2_with fail
 go_at_call 128;refine(Tryz.writeString (w.heap.size+1) (w.heap.size+1) [] l0 _ HI1.out.1 (by simp;omega) (by simp)).mono ?_;rintro e w2 ⟨rfl,hBA,hb2⟩;have H0:Hid (Lib.IsBuilder 123 5 (w.heap.size+1) (w.heap.size+1) (Lib.byteCells (l0.data.toList++(lsFold (ts.take 0)).data.toList)) w2∧Below (w.heap.size+1) (w.alloc (.cells #[.int .i64 1,.slice fa n fc,.slice va n vc,.string wd] 91)) w2):=⟨.inr (by simpa [Lib.strCells_eq,lsFold]using hBA),HI1.out.2.trans hb2⟩
 clear hBA hb2;have qz:w2.cell? ⟨w.heap.size,1,none⟩=some (.slice fa n fc):=by
  rw[H0.out.2.cell (p:=⟨w.heap.size,1,none⟩) (by simp)];go_simp
 have hs2:w.heap.size<w2.heap.size:=by have:=H0.out.2.size;simp at this;omega
 have hl4:l0.data.toList.length≤4:=by rw[len_size];omega
 go_wp2;go_loopw [20] (fun i wr=>∃j:Nat,j≤n∧i= .int .i64 j∧Hid (Lib.IsBuilder 123 5 (w.heap.size+1) (w.heap.size+1) (Lib.byteCells (l0.data.toList++(lsFold (ts.take j)).data.toList)) wr∧Below (w.heap.size+1) (w.alloc (.cells #[.int .i64 1,.slice fa n fc,.slice va n vc,.string wd] 91)) wr)) (fun i _=>n-(intOf i).toNat)
 case atStart=>exact⟨0,Nat.zero_le _,rfl,H0⟩
 case round=>
  obtain⟨j,hj,rfl,HJ⟩:=hrel;have HBW:Hid (Below w.heap.size w wr):=(HB1.out _).trans (HJ.out.2.mono (by omega));have hsz:w.heap.size+1≤wr.heap.size:=by have:=HJ.out.2.size;simpa using this
  have hsz':w.heap.size<wr.heap.size:=by omega
  by_cases hlt:j<n
  ·obtain⟨f,hf⟩:∃x,bs[j]?=some x:=⟨bs[j]'(by rw[HFL.out];exact hlt),List.getElem?_eq_getElem _⟩
   obtain⟨x,hx⟩:∃x,vs[j]?=some x:=⟨vs[j]'(by rw[HVL.out];exact hlt),List.getElem?_eq_getElem _⟩
   have HX:=hide' (lsFold_step (HZ.out j f x hf hx));have hx40:=HV40.out x (List.mem_of_getElem? hx);obtain⟨fb,fo,rfl,hfb,hfcc⟩:=HFx.out wr HBW.out j f hf;obtain⟨vb,vo,rfl,hvb,hvcc⟩:=HVx.out wr HBW.out j x hx;have q1:wr.cell? ⟨w.heap.size,1,none⟩=some (.slice (some ⟨fb,fo,none⟩) n fc):=by
    rw[HJ.out.2.cell (p:=⟨w.heap.size,1,none⟩) (by simp)];go_simp
   have q2:wr.cell? ⟨w.heap.size,2,none⟩=some (.slice (some ⟨vb,vo,none⟩) n vc):=by
    rw[HJ.out.2.cell (p:=⟨w.heap.size,2,none⟩) (by simp)];go_simp
   clear hf hx HFx HVx HZ;have hzs:=sizedB_size hx40;have hln:=HTS.out j;have hl5:(lsFold (ts.take j)).data.toList.length≤180:=by rw[len_size];exact hln
   cases f with
   |true=>
    have hvz:(ByteArray.mk #[36]++sizedB x).size≤45:=by rw[ByteArray.size_append];have e:(ByteArray.mk #[36]).size=1:=rfl;omega
    have HY:Hid (Lib.byteCells (l0.data.toList++(lsFold (ts.take j)).data.toList)++Lib.strCells (ByteArray.mk #[36]++sizedB x)=Lib.byteCells (l0.data.toList++(lsFold (ts.take (j+1))).data.toList)):=by
     show _=_;rw[HX.out,Lib.strCells_eq,←byteCells_append,List.append_assoc];congr 2
    clear HX;go_wp2_with fail
    go_at_call 215;refine(sized_any' x _ (by omega)).mono ?_;rintro e w3 ⟨rfl,hw3⟩;subst hw3;go_wp2_with fail
    go_at_call 128;generalize (ByteArray.mk #[36]++sizedB x)=V at*;refine(Tryz.writeString (w.heap.size+1) (w.heap.size+1) _ V _ HJ.out.1 ?hl1 ?hl2).mono ?_;case hl1=>rw[Lib.byteCells_length,List.length_append];omega
    case hl2=>exact hsz
    rintro e w4 ⟨rfl,hBA,hb4⟩;rw[HY.out]at hBA;have HN4:Hid (Lib.IsBuilder 123 5 (w.heap.size+1) (w.heap.size+1) (Lib.byteCells (l0.data.toList++(lsFold (ts.take (j+1))).data.toList)) w4∧Below (w.heap.size+1) (w.alloc (.cells #[.int .i64 1,.slice (some ⟨fb,fo,none⟩) n fc,.slice (some ⟨vb,vo,none⟩) n vc,.string wd] 91)) w4):=⟨.inr hBA,HJ.out.2.trans hb4⟩
    clear hBA hb4;go_wp2;go_roundw;case rel=>exact⟨j+1,by omega,by go_num,HN4⟩
    case measure=>simp[intOf];omega
   |false=>
    have HY:Hid (Lib.byteCells (l0.data.toList++(lsFold (ts.take j)).data.toList)++Lib.strCells (ByteArray.mk #[36,45,49,10])=Lib.byteCells (l0.data.toList++(lsFold (ts.take (j+1))).data.toList)):=by
     show _=_;rw[HX.out,Lib.strCells_eq,←byteCells_append,List.append_assoc];congr 2
    clear HX;go_wp2_with fail
    go_at_call 128;refine(Tryz.writeString (w.heap.size+1) (w.heap.size+1) _ (ByteArray.mk #[36,45,49,10]) _ HJ.out.1 ?hl1 ?hl2).mono ?_;case hl1=>rw[Lib.byteCells_length,List.length_append];have e:(ByteArray.mk #[36,45,49,10]).size=4:=rfl;omega
    case hl2=>exact hsz
    rintro e w4 ⟨rfl,hBA,hb4⟩;rw[HY.out]at hBA;have HN4:Hid (Lib.IsBuilder 123 5 (w.heap.size+1) (w.heap.size+1) (Lib.byteCells (l0.data.toList++(lsFold (ts.take (j+1))).data.toList)) w4∧Below (w.heap.size+1) (w.alloc (.cells #[.int .i64 1,.slice (some ⟨fb,fo,none⟩) n fc,.slice (some ⟨vb,vo,none⟩) n vc,.string wd] 91)) w4):=⟨.inr hBA,HJ.out.2.trans hb4⟩
    clear hBA hb4;go_wp2;go_roundw;case rel=>exact⟨j+1,by omega,by go_num,HN4⟩
    case measure=>simp[intOf];omega
  ·have hj2:j=n:=by omega
   subst hj2;have HR:=hide' (show ByteArray.mk (l0.data.toList++(lsFold (ts.take j)).data.toList).toArray=lsVals j ts by rw[HTL.out];rw[←hl0];unfold lsVals;rw[if_neg (by omega)];apply ba_ext;simp[List.append_assoc]);go_wp2_with fail
   go_at_call 57;refine(Tryz.Builder_String_any (w.heap.size+1) (w.heap.size+1) _ _ HJ.out.1 hsz).mono ?_;rintro e w5 ⟨rfl,hb5⟩;have HE:Hid (Below w.heap.size w w5):=HBW.out.trans (hb5.mono (by omega));clear hb5;rw[HR.out];go_wp2;go_ret;exact⟨ret_str rfl,HE.out⟩
set_option maxHeartbeats 1000000
set_option maxRecDepth 20000
variable {ck id:Int}{n fc:Nat}{w:World}{fa:Option Addr}
theorem liTell_found (a fa va:Option Addr)(n c fc vc:Nat)(ss:List ByteArray)(bs:List Bool)(vs:List ByteArray)(val cw:ByteArray)(ft:Bool)(cid:Int)(wd:ByteArray)(id:Int)(w:World)(hs:StrsIn w a n c ss)(hf:BoolsIn w fa n fc bs)(hv:StrsIn w va n vc vs)(hn:n≤4)(hk8:∀s∈ss,s.size≤8)(hv40:∀s∈vs,s.size≤40):Calls Tryz.prog 212 #[.agg #[],cmdV6 1 (.slice a n c) val cw ft cid,ansV 1 (.slice fa n fc) (.slice va n vc) wd,.int .i64 id] w fun e w'=>e= .returned (.string (liFold (bs.zip (ss.zip vs))++⟨#[101,110,100,10]⟩))∧Below w.heap.size w w':=by
 have HB3:=hide' (show∀x y z,Below w.heap.size w (((w.alloc x).alloc y).alloc z)from fun x y z=>(((Below.refl _ _).alloc (Nat.le_refl _) _).alloc (by simp) _).alloc (by simp;omega) _);have HC:=hide' (fun x y z=>tellFound_any a fa va n c fc vc ss bs vs wd _ (hs.later (HB3.out x y z)) (hf.later (HB3.out x y z)) (hv.later (HB3.out x y z)) hn hk8 hv40);clear hs hf hv hk8 hv40;generalize liFold (bs.zip (ss.zip vs))++⟨#[101,110,100,10]⟩=out at*;unfold cmdV6 ansV at*;go_enter Tryz.func212,Tryz.ntmps212;go_wp2_with fail
 go_at_call 219;refine(HC.out _ _ _).mono ?_;rintro e w1 ⟨rfl,hb1⟩;have H1:=hide' ((HB3.out _ _ _).trans (hb1.mono (by simp;omega)));clear hb1;go_wp2;go_ret;exact⟨rfl,H1.out⟩
theorem lsTell_found (ck:Int)(kv:Value)(fa va:Option Addr)(n fc vc:Nat)(bs:List Bool)(vs:List ByteArray)(val cw:ByteArray)(ft:Bool)(cid:Int)(wd:ByteArray)(id:Int)(w:World)(hf:BoolsIn w fa n fc bs)(hv:StrsIn w va n vc vs)(hn1:1≤n)(hn:n≤4)(hv40:∀s∈vs,s.size≤40):Calls Tryz.prog 252 #[.agg #[],cmdV6 ck kv val cw ft cid,ansV 1 (.slice fa n fc) (.slice va n vc) wd,.int .i64 id] w fun e w'=>e= .returned (.string (lsVals n (bs.zip vs)))∧Below w.heap.size w w':=by
 have HB3:=hide' (show∀x y z,Below w.heap.size w (((w.alloc x).alloc y).alloc z)from fun x y z=>(((Below.refl _ _).alloc (Nat.le_refl _) _).alloc (by simp) _).alloc (by simp;omega) _);have HC:Hid (∀x y z,Calls Tryz.prog 257 #[ansV 1 (.slice fa n fc) (.slice va n vc) wd] (((w.alloc x).alloc y).alloc z) fun e w'=>e= .returned (.string (lsVals n (bs.zip vs)))∧Below (((w.alloc x).alloc y).alloc z).heap.size (((w.alloc x).alloc y).alloc z) w'):=fun x y z=>by
  by_cases h1:n=1
  ·exact tellTexts_one fa va n fc vc bs vs wd _ (hf.later (HB3.out x y z)) (hv.later (HB3.out x y z)) hn h1 hv40
  ·exact tellTexts_more fa va n fc vc bs vs wd _ (hf.later (HB3.out x y z)) (hv.later (HB3.out x y z)) hn (by omega) hv40
 clear hf hv hv40;generalize lsVals n (bs.zip vs)=out at*;unfold cmdV6 ansV at*;go_enter Tryz.func252,Tryz.ntmps252;go_wp2_with fail
 go_at_call 257;refine(HC.out _ _ _).mono ?_;rintro e w1 ⟨rfl,hb1⟩;have H1:=hide' ((HB3.out _ _ _).trans (hb1.mono (by simp;omega)));clear hb1;go_wp2;go_ret;exact⟨rfl,H1.out⟩
def tellS (d ck ak:Int)(ss:List ByteArray)(bs:List Bool)(vs:List ByteArray)(wd:ByteArray)(id:Int):ByteArray:=
 if d=1 then(if ak=1 then liFold (bs.zip (ss.zip vs))++⟨#[101,110,100,10]⟩else liTellB ak wd)
 else if d=2 then(if ak=1 then headB 2 (bif bs.headD false then 0 else 1) 0 (vs.headD ⟨#[]⟩).size id++vs.headD ⟨#[]⟩else headB 2 (stB ak) 0 0 (tidB ck id))
 else(if ak=1 then lsVals ss.length (bs.zip vs)else lsTellB ak wd)
structure Found (ss:List ByteArray)(bs:List Bool)(vs:List ByteArray):Prop where
 bl:bs.length=ss.length
 vl:vs.length=ss.length
 l1:1≤ss.length
 l4:ss.length≤4
 k8:∀s∈ss,s.size≤8
 v40:∀s∈vs,s.size≤40
 ok:∀p∈bs.zip vs,findOk p=true
theorem answer_parts {ss:List ByteArray}{val:ByteArray}{ak:Int}{bs:List Bool}{vs:List ByteArray}{wd:ByteArray}(h:answerB ck ss val ak bs vs wd=true):(ak=1∧ck=1∧Found ss bs vs)∨(ak≠1∧(ak=2∨ak=3∨ak=4∨ak=5)∧(ak=5→wd.size≤8)):=by
 unfold answerB at h;rw[Bool.and_eq_true]at h;obtain⟨h1,h2⟩:=h;by_cases e1:ak=1
 ·subst e1;rw[if_pos rfl,Bool.and_eq_true,decide_eq_true_eq]at h2;obtain⟨rfl,h2⟩:=h2;left;refine⟨rfl,rfl,?_⟩;have R:=right_of (show cmdB 1 ss val=true by simpa using h1);unfold findsB at h2;rw[Bool.and_eq_true,Bool.and_eq_true,decide_eq_true_eq,decide_eq_true_eq]at h2;obtain⟨⟨h3,h4⟩,h5⟩:=h2;have h5:=List.all_eq_true.1 h5;refine⟨by omega,by omega,R.len1,R.len4,R.keys,?_,h5⟩;intro s hs;obtain⟨i,hi,rfl⟩:=List.mem_iff_getElem.1 hs;have hm:(bs[i]'(by omega),vs[i])∈bs.zip vs:=List.mem_iff_getElem.2 ⟨i,by simp;omega,by simp⟩;have:=h5 _ hm;unfold findOk at this;rw[Bool.and_eq_true,decide_eq_true_eq]at this;have:=this.1;simp only at this;omega
 ·right;rw[if_neg e1]at h2;refine⟨e1,?_⟩;by_cases e2:ak=2
  ·exact⟨.inl e2,fun h=>by omega⟩
  rw[if_neg e2]at h2;by_cases e3:ak=3∨ak=4
  ·exact⟨by omega,fun h=>by omega⟩
  rw[if_neg e3]at h2;by_cases e5:ak=5
  ·rw[if_pos e5]at h2;refine⟨by omega,fun _=>?_⟩;unfold wordB at h2;rw[Bool.and_eq_true]at h2;have:=h2.1;simp only[withinB,Bool.and_eq_true,decide_eq_true_eq]at this;omega
  ·rw[if_neg e5]at h2;cases h2
theorem frSay_id (h:frSayB ck n id=true):0≤id∧id≤65535∧(ck=1→n≤1):=by
 unfold frSayB at h;simp at h;refine⟨by omega,by omega,fun h1=>?_⟩;omega
theorem say2:sayB 2 ck n id=frSayB ck n id:=by
 unfold sayB dialB;simp
theorem list1 {α:Type}{l:List α}(h:l.length=1):∃x,l=[x]:=by
 match l,h with
 | [x],_=>exact⟨x,rfl⟩
theorem one_bools {f:Bool}(h:BoolsIn w fa n fc [f]):n=1∧1≤fc∧∃b o,fa=some ⟨b,o,none⟩∧b<w.heap.size∧w.cell? ⟨b,o,none⟩=some (.bool f):=by
 have hl:=h.len;have hc:=h.cap;simp at hl;subst hl;obtain⟨b,o,h1,h2,h3⟩:=h.at 0 f rfl;exact⟨rfl,hc,b,o,h1,h2,h3⟩
theorem one_strs {f:ByteArray}(h:StrsIn w fa n fc [f]):n=1∧1≤fc∧∃b o,fa=some ⟨b,o,none⟩∧b<w.heap.size∧w.cell? ⟨b,o,none⟩=some (.string f):=by
 have hl:=h.len;have hc:=h.cap;simp at hl;subst hl;obtain⟨b,o,h1,h2,h3⟩:=h.at 0 f rfl;exact⟨rfl,hc,b,o,h1,h2,h3⟩
theorem reftell_any (d ck:Int)(a:Option Addr)(n c:Nat)(ss:List ByteArray)(val cw:ByteArray)(ft:Bool)(cid:Int)(ak:Int)(fa va:Option Addr)(fn fc vn vc:Nat)(bs:List Bool)(vs:List ByteArray)(wd:ByteArray)(id:Int)(w:World)(hs:StrsIn w a n c ss)(hval:val.size≤maxLen)(hf:BoolsIn w fa fn fc bs)(hv:StrsIn w va vn vc vs)(hw:wd.size≤maxLen):Calls Tryz.prog 104 #[.int .i64 d,cmdV6 ck (.slice a n c) val cw ft cid,ansV ak (.slice fa fn fc) (.slice va vn vc) wd,.int .i64 id] w fun e w'=>e= .returned (saidV (answerB ck ss val ak bs vs wd&&sayB d ck n id) (tellS d ck ak ss bs vs wd id))∧Below w.heap.size w w':=by
 have hsl:=hs.len;have hfl:=hf.len;have hvl:=hv.len;rcases hcb:answerB ck ss val ak bs vs wd with _|_
 ·exact refTell_bada d ck a n c ss val cw ft cid ak fa va fn fc vn vc bs vs wd id w hs hval hf hv hw hcb
 rcases hsay:sayB d ck n id with _|_
 ·exact refTell_badb d ck a n c ss val cw ft cid ak fa va fn fc vn vc bs vs wd id w hs hval hf hv hw hcb hsay
 by_cases g1:d=1
 ·subst g1;refine refTell_good1 ck a n c ss val cw ft cid ak fa va fn fc vn vc bs vs wd id w hs hval hf hv hw hcb (tellS 1 ck ak ss bs vs wd id) fun W hB=>?_
  rcases answer_parts hcb with⟨rfl,rfl,F⟩|⟨h1,hk,h5⟩
  ·obtain rfl:fn=n:=by rw[←hfl,←hsl];exact F.bl
   obtain rfl:vn=fn:=by rw[←hvl,←hsl];exact F.vl
   exact refLines_found a fa va _ c fc vc ss bs vs val cw ft cid wd W (hs.later hB) (hf.later hB) (hv.later hB) (by rw[←hsl];exact F.l4) F.k8 F.v40
  ·have e:tellS 1 ck ak ss bs vs wd id=liTellB ak wd:=by unfold tellS;rw[if_pos rfl,if_neg h1]
   rw[e];exact refLines_plain ck _ val cw ft cid ak _ _ wd W hk h5
 by_cases g2:d=2
 ·subst g2;have hcan:=hsay;rw[say2]at hcan;obtain⟨i0,i1,hone⟩:=frSay_id hcan;by_cases h4:ck=4
  ·subst h4;refine refTell_good2w a n c ss val cw ft cid ak fa va fn fc vn vc bs vs wd id w hs hval hf hv hw hcb hsay (tellS 2 4 ak ss bs vs wd id) fun W hB=>?_
   rcases answer_parts hcb with⟨rfl,h,F⟩|⟨h1,hk,h5⟩
   ·cases h
   ·have e:tellS 2 4 ak ss bs vs wd id=headB 2 (stB ak) 0 0 0:=by unfold tellS;rw[if_neg (by decide),if_pos rfl,if_neg h1];rfl
    rw[e];exact refFrames_plain ak _ _ wd 0 W h1 (by decide) (by decide)
  ·refine refTell_good2 ck a n c ss val cw ft cid ak fa va fn fc vn vc bs vs wd id w hs hval hf hv hw (by simpa using h4) hcb hsay (tellS 2 ck ak ss bs vs wd id) fun W hB=>?_
   rcases answer_parts hcb with⟨rfl,rfl,F⟩|⟨h1,hk,h5⟩
   ·have hn1:ss.length=1:=by have:=hone rfl;have:=F.l1;omega
    obtain⟨f,rfl⟩:=list1 (F.bl.trans hn1);obtain⟨x,rfl⟩:=list1 (F.vl.trans hn1);obtain⟨rfl,hfc,fb,fo,rfl,hfb,hfcell⟩:=one_bools (hf.later hB);obtain⟨rfl,hvc,vb,vo,rfl,hvb,hvcell⟩:=one_strs (hv.later hB);have hx:=F.v40 x (by simp);cases f with
    |true=>exact refFrames_yes x fb fo fc vb vo vc wd id W i0 i1 hx hfc hvc hfb hvb hfcell hvcell
    |false=>
     have ho:=F.ok (false,x) (by simp);have hx0:x=⟨#[]⟩:=by
      unfold findOk at ho;simp at ho;apply ba_ext;simpa using ho.2
     subst hx0;have e:tellS 2 1 1 ss [false] [⟨#[]⟩] wd id=headB 2 1 0 0 id:=by
      unfold tellS;rw[if_neg (by decide),if_pos rfl,if_pos rfl];show headB 2 1 0 0 id++⟨#[]⟩=_;apply ba_ext;simp
     rw[e];exact refFrames_no fb fo fc _ wd id W i0 i1 hfc hfb hfcell
   ·have e:tellS 2 ck ak ss bs vs wd id=headB 2 (stB ak) 0 0 id:=by unfold tellS;rw[if_neg (by decide),if_pos rfl,if_neg h1];unfold tidB;rw[if_neg h4]
    rw[e];exact refFrames_plain ak _ _ wd id W h1 i0 i1
 have g3:d=3:=by
  unfold sayB dialB at hsay;simp[g1,g2]at hsay;exact hsay
 subst g3;refine refTell_good3 ck a n c ss val cw ft cid ak fa va fn fc vn vc bs vs wd id w hs hval hf hv hw hcb (tellS 3 ck ak ss bs vs wd id) fun W hB=>?_
 rcases answer_parts hcb with⟨rfl,rfl,F⟩|⟨h1,hk,h5⟩
 ·obtain rfl:fn=n:=by rw[←hfl,←hsl];exact F.bl
  obtain rfl:vn=fn:=by rw[←hvl,←hsl];exact F.vl
  have e:tellS 3 1 1 ss bs vs wd id=lsVals vn (bs.zip vs):=by unfold tellS;rw[if_neg (by decide),if_neg (by decide),if_pos rfl,hsl]
  rw[e];exact refLists_found fa va _ fc vc bs vs wd W (hf.later hB) (hv.later hB) (by rw[←hsl];exact F.l4) F.v40
 ·have e:tellS 3 ck ak ss bs vs wd id=lsTellB ak wd:=by unfold tellS;rw[if_neg (by decide),if_neg (by decide),if_neg h1]
  rw[e];exact refLists_plain ak _ _ wd W hk h5
end Go.Proofs.YtlonjggfnleolaaGreatDoor
namespace Go.Proofs.YtlonjggfnleolaaGreatDoor
open Go.RowKit Go.Shelf
set_option linter.unusedVariables false
set_option maxHeartbeats 2000000
set_option maxRecDepth 100000
variable {w w':World}{S:Nat}{hb:Option Nat}{t:SvP}{s:St}
theorem SInAt.below (h:SInAt w S hb t s)(k:Below w.heap.size w w'):SInAt w' S hb t s:=by
 obtain⟨⟨v,u,hD,H,h3⟩,hne⟩:=h;refine⟨⟨v,u,(k.block S (blkLt hD)).trans hD,H.other (fun b hb'=>?_),h3⟩,hne⟩;obtain⟨⟨all,h1,_⟩,hbk⟩:=H;obtain⟨cur,hc⟩:=ownsRow_blk h1 (hbk.trans hb');exact k.block b (blkLt hc)
theorem SInAt.hbBlk {b:Nat}(h:SInAt w S hb t s)(e:hb=some b):∃cur,w.heap[b]?=some (.cells cur 5 (0,0)):=by
 obtain⟨⟨v,u,hD,H,h3⟩,hne⟩:=h;obtain⟨⟨all,h1,_⟩,hbk⟩:=H;exact ownsRow_blk h1 (hbk.trans e)
theorem SInAt.blk (h:SInAt w S hb t s):∃Z,w.heap[S]?=some (.cells Z 143 (0,0))∧Z[2]?=some (.map (some t.m)):=by
 obtain⟨⟨v,u,hD,H,h3⟩,hne⟩:=h;exact⟨_,hD,rfl⟩
theorem SInAt.keep (h:SInAt w S hb t s)(k:∀b,b=S∨hb=some b→w'.heap[b]?=w.heap[b]?):SInAt w' S hb t s:=by
 obtain⟨⟨v,u,hD,H,h3⟩,hne⟩:=h;exact⟨⟨v,u,(k S (.inl rfl)).trans hD,H.other (fun b hb'=>k b (.inr hb')),h3⟩,hne⟩
theorem Turn2.chg {D:Nat}(h:Turn2 D hb w.drew w'):Chg (D::hb.toList) w w':=
 ⟨h.os,h.tape,h.output,h.size,fun b hb' hn=>h.block b hb' (fun e=>hn (by simp[e])) (fun e=>hn (by simp[←e]))⟩
def Heard (w w':World)(S q yb vb i kn:Nat)(hb:Option Nat)(t:SvP)(held:List UInt8)(r:Reply)(l:List (Nat×Value))(k:Int)(kv:Value)(val wd:ByteArray)(ft:Bool)(cid:Int)(n:Nat)(fa re:Bool)(Zy Zv:Array Value):Prop:=
 ∃(hb':Option Nat) (j:Nat) (p:Nat×Value),SInAt w' S hb' t ⟨held.drop r.used,false,false⟩∧Fresh w hb hb'∧l[j]?=some p∧p.1=r.id∧MapS w' t.m (l.eraseIdx j)∧w'.heap[q]?=some (quO k kv val wd ft cid (n:Int) fa (re || decide (r.st=2)) (.slice (some ⟨yb,0,none⟩) kn kn) (.slice (some ⟨vb,0,none⟩) kn kn))∧w'.heap[yb]?=some (.cells (Zy.set! i (.bool (decide (r.st=0)))) 4 (0,0))∧w'.heap[vb]?=some (.cells (Zv.set! i (.string r.val)) 9 (0,0))∧Chg (S::t.m::q::yb::vb::hb.toList) w w'
theorem hear_yes (S C q yb vb i kn:Nat)(hb:Option Nat)(t:SvP)(held:List UInt8)(r:Reply)(l:List (Nat×Value))(k:Int)(kv:Value)(val wd:ByteArray)(ft:Bool)(cid:Int)(n:Nat)(fa re:Bool)(Zy Zv:Array Value)(w:World)(R:SInAt w S hb t ⟨held,false,false⟩)(hf:fromR held=(some r,true))(hm:MapS w t.m l)(hk:∃p∈l,p.1=r.id)(hu:∀p∈l,p.1=r.id→p.2=partV C q i)(hq:w.heap[q]?=some (quO k kv val wd ft cid ((n+1:Nat):Int) fa re (.slice (some ⟨yb,0,none⟩) kn kn) (.slice (some ⟨vb,0,none⟩) kn kn)))(hy:w.heap[yb]?=some (.cells Zy 4 (0,0)))(hv:w.heap[vb]?=some (.cells Zv 9 (0,0)))(hZy:Zy.size=kn)(hZv:Zv.size=kn)(hi:i<kn)(hkn:kn≤1000)(hn:n≤1000)(hmay:mayB k r=true):Calls Tryz.prog 94 #[.pointer (some ⟨S,0,none⟩)] w fun e w'=>e= .returned (.tuple #[.pointer (some ⟨C,0,none⟩),.bool true])∧Heard w w' S q yb vb i kn hb t held r l k kv val wd ft cid n fa re Zy Zv:=by
 have HR:=hide' R;obtain⟨⟨v,u,hD,H,_⟩,hne⟩:=R;obtain⟨d0,d1,d2,d3,d4,df⟩:=siCells hD;have dm:=siAll hD;have hlt:=blkLt hD;have HW:=hide' (sWaiting_any S u v hb held w H d1 d2);have HFr:=hide' (fun(a:Option Addr) (n c:Nat) (W:World) (h:BytesA W a n c held)=>from_any a n c held W h);rw[hf]at HFr;obtain⟨_,hst,hid,hvs,hu7,hul⟩:=fromR_some hf;have hused:¬(r.used:Int)=0:=by omega
 have HLk:Hid (∀W,Below w.heap.size w W→(Instr.lookup 141 (.map (some t.m)) (.int .u16 (r.id:Int)) true).run Tryz.prog W= .ok (.tuple #[partV C q i,.bool true]) W):=fun W hW=>by
  obtain⟨p,hp,hpk,hr⟩:=run_lookup_yes W t.m r.id l (hm.at_.other (hW.block t.m hm.lt)) hk;rw[hu p hp hpk]at hr;exact hr
 have HMy:Hid (∀W,Below w.heap.size w W→Calls Tryz.prog 134 #[partV C q i,replyV r] W fun e w'=>e= .returned (.bool true)∧Below W.heap.size W w'):=fun W hW=>by
  have:=mayBe_any C q i k kv val wd ft cid _ fa re _ _ r W ((hW.block q (blkLt hq)).trans hq);rw[hmay]at this;exact this
 have hql:=blkLt hq;have hyl:=blkLt hy;have hvl:=blkLt hv;have hml:=hm.lt;obtain⟨ZS,hS1,hS2⟩:=HR.out.blk;have hSm:S≠t.m:=fun e=>by
  obtain⟨es,clock,h1,_⟩:=hm;rw[←e,hS1]at h1;cases h1
 have hbm:∀b,hb=some b→b≠t.m:=fun b e e2=>by
  obtain⟨es,clock,h1,_⟩:=hm;obtain⟨cur,hc⟩:=HR.out.hbBlk e;rw[←e2,hc]at h1;cases h1
 have off:∀(b T:Nat) (Z:Array Value),w.heap[b]?=some (.cells Z T (0,0))→T≠143→T≠5→b≠S∧some b≠hb∧b≠t.m:=fun b T Z hZ h1 h2=>by
  refine⟨fun e=>?_,fun e=>?_,fun e=>?_⟩
  ·rw[e,hS1]at hZ;simp at hZ;exact h1 hZ.2.symm
  ·obtain⟨cur,hc⟩:=HR.out.hbBlk e.symm;rw[hc]at hZ;simp at hZ;exact h2 hZ.2.symm
  ·obtain⟨es,clock,h1',_⟩:=hm;rw[e,h1']at hZ;cases hZ
 have hq':=hq;unfold quO at hq';have HOff:=hide' (And.intro (off q 216 _ hq' (by decide) (by decide)) (And.intro (off yb 4 _ hy (by decide) (by decide)) (And.intro (off vb 9 _ hv (by decide) (by decide)) (And.intro hSm hbm))));have HQ:=hide' (And.intro hq (And.intro hy (And.intro hv hm)));have HK:=hide' hk;have hhb:∀b,hb=some b→b<w.heap.size:=fun b e=>by obtain⟨cur,hc⟩:=HR.out.hbBlk e;exact blkLt hc
 have HHB:=hide' hhb;have HUse:Hid (∀W,Below w.heap.size w W→Calls Tryz.prog 126 #[.pointer (some ⟨S,3,none⟩),.int .i64 (r.used:Int)] W fun e w'=>e= .returned (.tuple #[])∧SInTo W w' S hb t ⟨held.drop r.used,false,false⟩):=fun W hW=>sUse_any S r.used t hb ⟨held,false,false⟩ W (HR.out.below hW) hul
 have HTk:Hid (∀W,W.heap[q]?=w.heap[q]?→W.heap[yb]?=w.heap[yb]?→W.heap[vb]?=w.heap[vb]?→Calls Tryz.prog 135 #[.pointer (some ⟨q,0,none⟩),.int .i64 (i:Int),replyV r] W fun e w'=>e= .returned (.tuple #[])∧w'.heap[q]?=some (quO k kv val wd ft cid (n:Int) fa (re || decide (r.st=2)) (.slice (some ⟨yb,0,none⟩) kn kn) (.slice (some ⟨vb,0,none⟩) kn kn))∧w'.heap[yb]?=some (.cells (Zy.set! i (.bool (decide (r.st=0)))) 4 (0,0))∧w'.heap[vb]?=some (.cells (Zv.set! i (.string r.val)) 9 (0,0))∧Chg [q,yb,vb] W w'):=fun W h1 h2 h3=>qtake_any q yb vb i kn k kv val wd ft cid n fa re Zy Zv r W (h1.trans hq) (h2.trans hy) (h3.trans hv) hZy hZv hi hkn hn hst
 clear hD H hk hm hu hq hmay hy hv off hq' hS1 hS2 hSm hbm hhb;obtain⟨st,rid,rv,used⟩:=r;simp only at hused HLk hst hid;unfold fromV replyV at HFr;unfold replyV at HMy HTk;unfold partV at HLk HMy;simp only at HFr HMy HTk HUse;go_enter Tryz.func94,Tryz.ntmps94;go_wp2_with fail
 go_at_call 125;refine HW.out.mono ?_;rintro e w1 ⟨⟨a,c,rfl,hBA,_,_⟩,q1,hw1⟩;have hF:=HFr.out a _ c w1 (by rw[hw1];exact⟨hBA.len,hBA.cap,hBA.small,hBA.ag,hBA.by_⟩);have HF:=hide' hF;have HB1:Hid (Below w.heap.size w w1):=by rw[hw1];exact below_drewN (Below.refl _ _) q1
 clear hBA hF hw1;go_wp2_with fail
 go_at_call 133;refine HF.out.mono ?_;rintro e w2 ⟨rfl,hb2⟩;have HB2:=hide' (HB1.out.trans (hb2.mono HB1.out.size));have dm2:=(HB2.out.cell (p:=⟨S,2,none⟩) hlt).trans dm;have hlt2:S<w2.heap.size:=Nat.lt_of_lt_of_le hlt HB2.out.size;have hSn:¬S=w2.heap.size:=by omega
 clear hb2 d0 d1 d2 d3 d4 df dm;go_wp2_with fail
 have hb3:Below w.heap.size w (w2.alloc (.cells #[.int .i64 (st:Int),.int .u16 (rid:Int),.string rv,.int .i64 (used:Int)] 224)):=HB2.out.alloc HB2.out.size _;have hN:=blkNew w2 (.cells #[.int .i64 (st:Int),.int .u16 (rid:Int),.string rv,.int .i64 (used:Int)] 224);have dm3:=(hb3.cell (p:=⟨S,2,none⟩) hlt).trans ((HB2.out.cell (p:=⟨S,2,none⟩) hlt).symm.trans dm2);generalize w2.alloc (.cells #[.int .i64 (st:Int),.int .u16 (rid:Int),.string rv,.int .i64 (used:Int)] 224)=w3 at*;have r0:=blkCell hN 0;have r1:=blkCell hN 1;have r2:=blkCell hN 2;have r3:=blkCell hN 3;simp at r0 r1 r2 r3;have hlN:=blkLt hN;have hlt3:S<w3.heap.size:=Nat.lt_of_lt_of_le hlt hb3.size;have HB3:=hide' hb3;have hsz3:=hb3.size
 have hNn:¬w2.heap.size=w3.heap.size:=by omega
 have HNB:=hide' hN;clear hb3 hN dm2;go_region_held3 (fun W'=>W'.cell? ⟨S,2,none⟩=some (.map (some t.m))∧W'.cell? ⟨w2.heap.size,1,none⟩=some (.int .u16 (rid:Int))∧(Instr.lookup 141 (.map (some t.m)) (.int .u16 (rid:Int)) true).run Tryz.prog W'= .ok (.tuple #[.agg #[.pointer (some ⟨C,0,none⟩),.pointer (some ⟨q,0,none⟩),.int .i64 (i:Int)],.bool true]) W')
  ((refine⟨?_,?_,?_⟩;(first|(go_keep)|(go_simp));(first|(go_keep)|(go_simp));(exact HLk.out _ (by repeat(first|with_reducible exact HB3.out|with_reducible exact Below.refl _ _|with_reducible refine Below.drew ?_|with_reducible refine below_drewN ?_ _|with_reducible refine Below.alloc ?_ (by first|omega|(simp;omega)) _|with_reducible refine Below.setCell ?_ (by first|omega|(simp;omega)) _)))))
  (fail)
 all_goals go_wp2_with fail
 all_goals
  go_at_call 134
  refine(HMy.out _ ?_).mono ?_
  ·repeat(first|with_reducible exact HB3.out|with_reducible refine Below.drew ?_|with_reducible refine Below.alloc ?_ (by first|omega|(simp;omega)) _)
  rintro e w4 ⟨rfl,hb4⟩
  have HB4:Hid (Below w.heap.size w w4):=((HB3.out.alloc HB3.out.size _).drew).trans (hb4.mono (by simp;omega))
  have hN4:w4.heap[w2.heap.size]?=some (.cells #[.int .i64 (st:Int),.int .u16 (rid:Int),.string rv,.int .i64 (used:Int)] 224 (0,0)):=(hb4.block _ (by simp;omega)).trans (hs_drew (hs_alloc HNB.out _))
  have hP4:w4.heap[w3.heap.size]?=some (.cells #[.pointer (some ⟨C,0,none⟩),.pointer (some ⟨q,0,none⟩),.int .i64 (i:Int)] 222 (0,0)):=(hb4.block _ (by simp)).trans (hs_drew (blkNew w3 _))
  have hlt4:S<w4.heap.size:=Nat.lt_of_lt_of_le hlt HB4.out.size
  have s2:=HB2.out.size
  have s4:=HB4.out.size
  have HU4:=hide' (HUse.out w4.drew HB4.out.drew)
  clear hb4 r0 r1 r2 r3
  have r1:=blkCell hN4 1
  have r3:=blkCell hN4 3
  simp at r1 r3
  have hl1:=blkLt hN4
  have hl2:=blkLt hP4
  have HN4:=hide' (And.intro hN4 hP4)
  clear hN4 hP4
  go_wp2_with fail
  go_region_held3 (fun W'=>W'.cell? ⟨w2.heap.size,3,none⟩=some (.int .i64 (used:Int))) (go_keep) (first
   |(go_at_call 126;refine HU4.out.mono ?_;rintro e w5 ⟨rfl,hto⟩;have nb1:some w2.heap.size≠hb:=(fun e=>by have:=HHB.out _ e.symm;omega);have nb2:some w3.heap.size≠hb:=(fun e=>by have:=HHB.out _ e.symm;omega);have hN5:=(hto.turn.block w2.heap.size (by simpa using hl1) (fun e=>hSn e.symm) nb1).trans (hs_drew HN4.out.1);have hP5:=(hto.turn.block w3.heap.size (by simpa using hl2) (by omega) nb2).trans (hs_drew HN4.out.2);have r35:=blkCell hN5 3;simp at r35;have HT5:=hide' (And.intro hto (And.intro hN5 hP5));clear hto hN5 hP5 r1 r3)
   |fail)
  all_goals
   obtain⟨⟨hb',hR5,hFr5⟩,hT5⟩:=HT5.out.1
   obtain⟨ZS5,hS5,hS52⟩:=hR5.blk
   have dm5:w5.cell? ⟨S,2,none⟩=some (.map (some t.m)):=(blkCell hS5 2).trans hS52
   have r15:=blkCell HT5.out.2.1 1
   simp at r15
   have hmk:w5.heap[t.m]?=w.heap[t.m]?:=(hT5.block t.m (Nat.lt_of_lt_of_le hml s4) (fun e=>HOff.out.2.2.2.1 e.symm) (fun e=>HOff.out.2.2.2.2 _ e.symm rfl)).trans (HB4.out.block t.m hml)
   have HM5:Hid (MapS w5.drew t.m l):=HQ.out.2.2.2.other (w':=w5.drew) hmk
   have H5:=hide' (And.intro hR5 (And.intro hFr5 hT5))
   have hl5:=blkLt hS5
   have hlN5:=blkLt HT5.out.2.1
   have hlP5:=blkLt HT5.out.2.2
   have hSZ:=hide' hS5
   have nNm:w2.heap.size≠t.m:=by omega
   have nPm:w3.heap.size≠t.m:=by omega
   clear hR5 hFr5 hT5 hS52 hmk r35 hS5
   go_wp2_with fail
   go_region_held3 (fun W'=>W'.cell? ⟨S,2,none⟩=some (.map (some t.m))∧W'.cell? ⟨w2.heap.size,1,none⟩=some (.int .u16 (rid:Int))) (go_keep) (first
    |(refine step_delete _ (by rfl) _ _ (by rfl) t.m rid l (by rfl) (by rfl) HM5.out HK.out ?_;intro w6 j p h1 h2 h3 h4 h5;have hN6:=(h4.block w2.heap.size (by simpa using hlN5) (by simpa using nNm)).trans (hs_drew HT5.out.2.1);have hP6:=(h4.block w3.heap.size (by simpa using hlP5) (by simpa using nPm)).trans (hs_drew HT5.out.2.2);have hS6:=h4.block S (by simpa using hl5) (by simpa using HOff.out.2.2.2.1);have dm6:w6.cell? ⟨S,2,none⟩=some (.map (some t.m)):=(World.cell?_of_block (a:=⟨S,2,none⟩) hS6).trans dm5;have r16:=blkCell hN6 1;simp at r16;have H6:=hide' (And.intro h1 (And.intro h2 (And.intro h3 (And.intro h4 (And.intro h5 (And.intro hN6 hP6))))));clear h1 h2 h3 h4 h5 hN6 hP6 hS6 dm5 r15)
    |fail)
   all_goals
    have q0:=blkCell H6.out.2.2.2.2.2.1 0
    have q1':=blkCell H6.out.2.2.2.2.2.1 1
    have q2:=blkCell H6.out.2.2.2.2.2.1 2
    have q3:=blkCell H6.out.2.2.2.2.2.1 3
    have p0:=blkCell H6.out.2.2.2.2.2.2 0
    have p1:=blkCell H6.out.2.2.2.2.2.2 1
    have p2:=blkCell H6.out.2.2.2.2.2.2 2
    simp at q0 q1' q2 q3 p0 p1 p2
    have hlN6:=blkLt H6.out.2.2.2.2.2.1
    have hlP6:=blkLt H6.out.2.2.2.2.2.2
    have kp:∀b,b<w.heap.size→(b≠S∧some b≠hb∧b≠t.m)→w6.heap[b]?=w.heap[b]?:=fun b hbl h=>by
     have hb4:b<w4.heap.size:=Nat.lt_of_lt_of_le hbl s4;have e5:=H5.out.2.2.block b (by simpa using hb4) h.1 h.2.1;have hb5:b<w5.heap.size:=Nat.lt_of_lt_of_le hb4 H5.out.2.2.size;exact(H6.out.2.2.2.1.block b (by simpa using hb5) (by simpa using h.2.2)).trans (e5.trans (HB4.out.block b hbl))
    have HT6:=hide' (HTk.out w6 (kp q hql HOff.out.1) (kp yb hyl HOff.out.2.1) (kp vb hvl HOff.out.2.2.1))
    have HKp:=hide' kp
    clear kp
    go_wp2_with fail
    go_at_call 135
    refine HT6.out.mono ?_
    rintro e w7 ⟨rfl,a1,a2,a3,a4⟩
    have hP7:=(a4.block w3.heap.size (by simpa using hlP6) (by simp;omega)).trans H6.out.2.2.2.2.2.2
    have p07:=blkCell hP7 0
    simp at p07
    have hlP7:=blkLt hP7
    have HA:=hide' (And.intro a1 (And.intro a2 (And.intro a3 a4)))
    clear a1 a2 a3 a4 hP7 p0 p1 p2
    go_wp2
    go_ret2
    refine⟨rfl,hb',j,p,?_,?_,H6.out.1,H6.out.2.1,?_,HA.out.1,HA.out.2.1,HA.out.2.2.1,?_⟩
    ·refine H5.out.1.keep (fun b hbb=>?_);have h7:∀b,b<w6.heap.size→b≠q→b≠yb→b≠vb→w7.heap[b]?=w6.heap[b]?:=fun b h1 h2 h3 h4=>HA.out.2.2.2.block b h1 (by simp[h2,h3,h4])
     have h6:∀b,b<w5.heap.size→b≠t.m→w6.heap[b]?=w5.heap[b]?:=fun b h1 h2=>H6.out.2.2.2.1.block b h1 (by simpa using h2)
     have hs6:w6.heap.size=w5.heap.size:=H6.out.2.2.2.2.1;rcases hbb with e|e
     ·subst e;exact(h7 b (by omega) (fun e=>HOff.out.1.1 e.symm) (fun e=>HOff.out.2.1.1 e.symm) (fun e=>HOff.out.2.2.1.1 e.symm)).trans (h6 b hl5 HOff.out.2.2.2.1)
     ·obtain⟨cur,hc⟩:=H5.out.1.hbBlk e;have hbl:=blkLt hc;have hm6:b≠t.m:=fun e2=>by
       obtain⟨es,clock,h1,_⟩:=HM5.out;have h1':w5.heap[t.m]?=some (.map es clock):=h1;rw[←e2,hc]at h1';cases h1'
      have e6:=h6 b hbl hm6;have nn:∀(x T:Nat) (Z:Array Value),w.heap[x]?=some (.cells Z T (0,0))→T≠5→x<w.heap.size→(x≠S∧some x≠hb∧x≠t.m)→b≠x:=fun x T Z hZ hT hxl ho e2=>by
       have:=HKp.out x hxl ho;rw[←e2,e6,hc]at this;rw[←e2,←this]at hZ;simp at hZ;exact hT hZ.2.symm
      have hq':=HQ.out.1;unfold quO at hq';exact(h7 b (by omega) (nn q 216 _ hq' (by decide) hql HOff.out.1) (nn yb 4 _ HQ.out.2.1 (by decide) hyl HOff.out.2.1) (nn vb 9 _ HQ.out.2.2.1 (by decide) hvl HOff.out.2.2.1)).trans e6
    ·rcases H5.out.2.1 with e|e|⟨x,e,hx⟩
     ·exact .inl e
     ·exact .inr (.inl e)
     ·exact .inr (.inr ⟨x,e,Nat.le_trans s4 hx⟩)
    ·refine H6.out.2.2.1.other (HA.out.2.2.2.block t.m H6.out.2.2.1.lt ?_);simp only[List.mem_cons,List.not_mem_nil,or_false,not_or]
     exact⟨fun e=>HOff.out.1.2.2 e.symm,fun e=>HOff.out.2.1.2.2 e.symm,fun e=>HOff.out.2.2.1.2.2 e.symm⟩
    ·have c4:Chg (S::t.m::q::yb::vb::hb.toList) w w4:=Chg.of_below HB4.out;have c5:=c4.trans H5.out.2.2.chg (fun b hb=> .inl (by simp at hb⊢;rcases hb with h|h<;>simp[h]));have c6:=c5.trans (Chg.undrew H6.out.2.2.2.1) (fun b hb=> .inl (by simp at hb;simp[hb]));exact c6.trans HA.out.2.2.2 (fun b hb=> .inl (by simp at hb;rcases hb with h|h|h<;>simp[h]))
end Go.Proofs.YtlonjggfnleolaaGreatDoor
namespace Go.Proofs.YtlonjggfnleolaaGreatDoor
open Go.RowKit Go.Shelf
open Go.ChangeMaps (setBlock)
set_option linter.unusedVariables false
structure QD where
 k:Int
 kv:Value
 val:ByteArray
 wd:ByteArray
 ft:Bool
 cid:Int
 n:Nat
 fa:Bool
 re:Bool
 yv:Value
 vv:Value
def qdO (d:QD):Obj:=quO d.k d.kv d.val d.wd d.ft d.cid (d.n:Int) d.fa d.re d.yv d.vv
def failN (d:QD)(c:Nat):QD:={d with n:=d.n-c,fa:=d.fa || decide (0<c)}
def qOf:Value→Nat
 | .agg a=>(match a.toList with| [_,.pointer (some ad),_]=>ad.block|_=>0)
 |_=>0
theorem qOf_part (C q:Nat)(i:Int):qOf (partV C q i)=q:=rfl
def cntE (vis:List MapEntry)(q:Nat):Nat:=vis.countP (fun e=>qOf e.val==q)
theorem cntE_snoc (vis:List MapEntry)(e:MapEntry)(q:Nat):cntE (vis++[e]) q=cntE vis q+(if qOf e.val=q then 1 else 0):=by
 unfold cntE;rw[List.countP_append];by_cases h:qOf e.val=q<;>simp[h]
def seenOf (w:World)(r:Nat):Nat:=match w.heap[r]?with|some (.mapIter _ _ seen _)=>seen.size|_=>0
section
variable {P:Program}(w:World){ops:Array Oper}{rest:List Oper}{o:Oper}{a:Act}{Q:Exit→Act→World→Prop}
end
theorem run_range_map (w:World)(m:Nat)(es:Array MapEntry)(clock:Nat)(h:w.heap[m]?=some (.map es clock)):(Instr.range 141 (.map (some m))).run Tryz.prog w= .ok (.pointer (some ⟨w.heap.size,0,none⟩)) (w.alloc (.mapIter (some m) clock #[] clock)):=by
 simp[Instr.range,run_underlying Tryz.underlying141,MapKept.run_getObj_map h,Result.andThen,newObj,Sem.run]
end Go.Proofs.YtlonjggfnleolaaGreatDoor
namespace Go.Proofs.YtlonjggfnleolaaGreatDoor
open Go.RowKit Go.Shelf
set_option linter.unusedVariables false
variable {w wr:World}{S clock:Nat}{t:SvP}{es:Array MapEntry}{qd:Nat→Option QD}{seen:Array Nat}{vis rem:List MapEntry}{e:MapEntry}
structure FallAt (w wr:World)(S:Nat)(t:SvP)(es:Array MapEntry)(clock:Nat)(qd:Nat→Option QD)(seen:Array Nat)(vis rem:List MapEntry):Prop where
 it:wr.heap[w.heap.size]?=some (.mapIter (some t.m) clock seen clock)
 sn:seen.toList=vis.map (·.born)
 pm:(vis++rem).Perm es.toList
 sv:wr.heap[S]?=some (svP {t with dn:=true} (.slice none 0 0) 0 false false)
 mp:wr.heap[t.m]?=some (.map es clock)
 qs:∀q d,qd q=some d→wr.heap[q]?=some (qdO (failN d (cntE vis q)))
 os:wr.os=w.os
 tape:wr.tape=w.tape
 output:wr.output=w.output
 size:w.heap.size<wr.heap.size
 fr:∀b,b<w.heap.size→b≠S→qd b=none→wr.heap[b]?=w.heap[b]?
theorem failN_step (d:QD)(c:Nat)(h:c+1≤d.n):(failN d c).n=(d.n-(c+1))+1∧failN d (c+1)={failN d c with n:=d.n-(c+1),fa:=true}:=by
 unfold failN;refine⟨by simp only;omega,by simp⟩
theorem FallAt.left (h:FallAt w wr S t es clock qd seen vis rem)(he:e∈(leftOf es seen).toList):e∈es.toList∧e∈rem:=by
 unfold leftOf at he;simp at he;obtain⟨h1,h2⟩:=he;refine⟨by simpa using h1,?_⟩;have h3:e∈vis++rem:=h.pm.mem_iff.2 (by simpa using h1);rcases List.mem_append.1 h3 with h4|h4
 ·exfalso;apply h2;have:e.born∈seen.toList:=by rw[h.sn];exact List.mem_map.2 ⟨e,h4,rfl⟩
  simpa using this
 ·exact h4
theorem FallAt.over (h:FallAt w wr S t es clock qd seen vis rem)(hn:(es.toList.map (·.born)).Nodup)(h0:(leftOf es seen).size=0):rem=[]:=by
 cases rem with
 |nil=>rfl
 |cons x rem=>
  exfalso;have hx:x∈es.toList:=h.pm.mem_iff.1 (by simp);have hnd:((vis++x::rem).map (·.born)).Nodup:=(h.pm.map (·.born)).nodup_iff.2 hn;rw[List.map_append,List.map_cons]at hnd;have hnx:x.born∉seen.toList:=by
   rw[h.sn];intro hm;exact(List.nodup_append.1 hnd).2.2 _ hm _ (by simp) rfl
  have:x∈(leftOf es seen).toList:=by
   unfold leftOf;simp;exact⟨by simpa using hx,by simpa using hnx⟩
  rw[Array.eq_empty_of_size_eq_zero h0]at this;simp at this
theorem seenOf_at (h:FallAt w wr S t es clock qd seen vis rem):seenOf wr w.heap.size+rem.length=es.size:=by
 unfold seenOf;rw[h.it];have h1:=h.pm.length_eq;have h2:=congrArg List.length h.sn;simp at h1 h2;simp only
 omega
theorem FallAt.more {w1 w2:World}(h:FallAt w wr S t es clock qd seen vis rem)(he:e∈rem){q:Nat}{d:QD}(hq:qOf e.val=q)(hd:qd q=some d)(hne:q<w.heap.size∧q≠S∧q≠t.m)(hSl:S<w.heap.size)(hml:t.m<w.heap.size)(hSm:S≠t.m)(hall:∀q d,qd q=some d→q<w.heap.size∧q≠S∧q≠t.m)(hcnt:cntE es.toList q≤d.n)(h1:w1.heap[w.heap.size]?=some (.mapIter (some t.m) clock (seen.push e.born) clock))(k1:Chg [w.heap.size] wr w1){O:Obj}(h2:w2.heap[q]?=some (qdO {failN d (cntE vis q)with n:=d.n-(cntE vis q+1),fa:=true}))(k2:Chg [q] (w1.alloc O) w2):∃rem',rem'.length+1=rem.length∧FallAt w w2 S t es clock qd (seen.push e.born) (vis++[e]) rem':=by
 obtain⟨r1,r2,rfl⟩:=List.append_of_mem he;have hp2:((vis++[e])++(r1++r2)).Perm es.toList:=by
  refine List.Perm.trans ?_ h.pm;rw[List.append_assoc];exact List.Perm.append_left vis (show(e::(r1++r2)).Perm (r1++e::r2)from List.perm_middle.symm)
 have hc:cntE vis q+1≤d.n:=by
  have e1:cntE ((vis++[e])++(r1++r2)) q=cntE es.toList q:=hp2.countP_eq _;have e2:cntE ((vis++[e])++(r1++r2)) q=cntE (vis++[e]) q+cntE (r1++r2) q:=by unfold cntE;rw[List.countP_append]
  rw[cntE_snoc,if_pos hq]at e2;omega
 have hs1:w1.heap.size≤(w1.alloc O).heap.size:=by simp
 have kk:∀b,b<wr.heap.size→b≠w.heap.size→b≠q→w2.heap[b]?=wr.heap[b]?:=fun b hb n1 n2=>by
  have hb1:b<w1.heap.size:=Nat.lt_of_lt_of_le hb k1.size;exact(k2.block b (by simp;omega) (by simpa using n2)).trans ((Below.heap_alloc _ _ _ hb1).trans (k1.block b hb (by simpa using n1)))
 have hlr:w.heap.size<w1.heap.size:=blkLt h1;refine⟨r1++r2,by simp;omega,⟨?_,?_,hp2,?_,?_,fun q' d' hd'=>?_,?_,?_,?_,?_,fun b hb n1 n2=>?_⟩⟩
 ·exact(k2.block w.heap.size (by simp;omega) (by simp;omega)).trans ((Below.heap_alloc _ _ _ hlr).trans h1)
 ·rw[Array.toList_push,h.sn,List.map_append];rfl
 ·exact(kk S (Nat.lt_trans hSl h.size) (by omega) (fun e=>hne.2.1 e.symm)).trans h.sv
 ·exact(kk t.m (Nat.lt_trans hml h.size) (by omega) (fun e=>hne.2.2 e.symm)).trans h.mp
 ·by_cases hqq:q'=q
  ·subst hqq;rw[hd]at hd';cases hd';rw[cntE_snoc,if_pos hq,(failN_step d _ hc).2];exact h2
  ·rw[cntE_snoc,if_neg (fun e=>hqq (e.symm.trans hq)),Nat.add_zero];have:=hall q' d' hd';exact(kk q' (Nat.lt_trans this.1 h.size) (by omega) hqq).trans (h.qs q' d' hd')
 ·exact k2.os.trans (k1.os.trans h.os)
 ·exact k2.tape.trans (k1.tape.trans h.tape)
 ·exact k2.output.trans (k1.output.trans h.output)
 ·exact Nat.lt_of_lt_of_le hlr (Nat.le_trans hs1 k2.size)
 ·exact(kk b (Nat.lt_trans hb h.size) (by omega) (fun e=>by rw[e,hd]at n2;cases n2)).trans (h.fr b hb n1 n2)
end Go.Proofs.YtlonjggfnleolaaGreatDoor
namespace Go.Proofs.YtlonjggfnleolaaGreatDoor
open Go.RowKit Go.Shelf
open Go.ChangeMaps (setBlock)
set_option linter.unusedVariables false
set_option maxHeartbeats 2000000
set_option maxRecDepth 100000
theorem cntE_of {es:List MapEntry}:∀{l:List (Nat×Value)},es.map (fun e=>(e.key,e.val))=l.map (fun p=>(Value.int .u16 (p.1:Int),p.2))→∀q,cntE es q=l.countP (fun p=>qOf p.2==q):=by
 induction es with
 |nil=>intro l h q;cases l with
  |nil=>rfl
  |cons p l=>simp at h
 |cons e es ih=>
  intro l h q;cases l with
  |nil=>simp at h
  |cons p l=>
   simp only[List.map_cons,List.cons.injEq]at h;have hv:e.val=p.2:=congrArg Prod.snd h.1;have:=ih h.2 q;unfold cntE at this⊢;rw[List.countP_cons,List.countP_cons,this,hv]
theorem sfall_any (S:Nat)(hb:Option Nat)(t:SvP)(held:List UInt8)(l:List (Nat×Value))(qd:Nat→Option QD)(w:World)(R:SInAt w S hb t ⟨held,false,false⟩)(hm:MapS w t.m l)(hqs:∀q d,qd q=some d→w.heap[q]?=some (qdO d))(hall:∀p∈l,∃C q i d,p.2=partV C q i∧qd q=some d)(hcnt:∀q d,qd q=some d→l.countP (fun p=>qOf p.2==q)≤d.n∧d.n≤1000):Calls Tryz.prog 95 #[.pointer (some ⟨S,0,none⟩)] w fun e w'=>e= .returned (.tuple #[])∧SInAt w' S none {t with dn:=true} ⟨[],false,false⟩∧MapS w' t.m []∧(∀q d,qd q=some d→w'.heap[q]?=some (qdO (failN d (l.countP (fun p=>qOf p.2==q)))))∧w'.os=w.os∧w'.tape=w.tape∧w'.output=w.output∧w.heap.size≤w'.heap.size∧∀b,b<w.heap.size→b≠S→b≠t.m→qd b=none→w'.heap[b]?=w.heap[b]?:=by
 obtain⟨⟨v,u,hD,H,_⟩,hne⟩:=R;obtain⟨es,clock,hmp,hml,hborn,hnd⟩:=hm;obtain⟨d0,d1,d2,d3,d4,df⟩:=siCells hD;have dm:=siAll hD;have hlt:=blkLt hD;have hlm:=blkLt hmp;have hSm:S≠t.m:=fun e=>by rw[←e,hD]at hmp;unfold svP svO at hmp;cases hmp
 have hS1:(((((w.setCell ⟨S,0,none⟩ (.bool true)).setCell ⟨S,3,none⟩ (.slice none 0 0)).setCell ⟨S,4,none⟩ (.int .i64 0)).setCell ⟨S,5,none⟩ (.bool false)).setCell ⟨S,6,none⟩ (.bool false)).heap[S]?=some (svP {t with dn:=true} (.slice none 0 0) 0 false false):=(blkSet (i:=6) (blkSet (i:=5) (blkSet (i:=4) (blkSet (i:=3) (blkSet (i:=0) hD _) _) _) _) _).trans rfl;have k1:Chg [S] w (((((w.setCell ⟨S,0,none⟩ (.bool true)).setCell ⟨S,3,none⟩ (.slice none 0 0)).setCell ⟨S,4,none⟩ (.int .i64 0)).setCell ⟨S,5,none⟩ (.bool false)).setCell ⟨S,6,none⟩ (.bool false)):=(((((Chg.refl [S] w).set (.inl (by simp)) _).set (.inl (by simp)) _).set (.inl (by simp)) _).set (.inl (by simp)) _).set (.inl (by simp)) _
 have hsz:(((((w.setCell ⟨S,0,none⟩ (.bool true)).setCell ⟨S,3,none⟩ (.slice none 0 0)).setCell ⟨S,4,none⟩ (.int .i64 0)).setCell ⟨S,5,none⟩ (.bool false)).setCell ⟨S,6,none⟩ (.bool false)).heap.size=w.heap.size:=by simp
 have H1:=hide' (And.intro hS1 (And.intro k1 hsz));have hqne:∀q d,qd q=some d→q<w.heap.size∧q≠S∧q≠t.m:=fun q d hd=>by
  have hq:=hqs q d hd;refine⟨blkLt hq,fun e=>?_,fun e=>?_⟩
  ·rw[e,hD]at hq;unfold svP svO qdO quO at hq;cases hq
  ·rw[e,hmp]at hq;unfold qdO quO at hq;cases hq
 have HA:=hide' (And.intro hmp (And.intro hml (And.intro hborn (And.intro hnd (And.intro hqs (And.intro hall (And.intro hcnt hqne)))))));clear hS1 k1 hsz hmp hml hborn hnd hqs hall hcnt hqne H hne hD;go_enter Tryz.func95,Tryz.ntmps95;go_upto_region 2 with fail
 generalize hw1:(((((w.setCell ⟨S,0,none⟩ (.bool true)).setCell ⟨S,3,none⟩ (.slice none 0 0)).setCell ⟨S,4,none⟩ (.int .i64 0)).setCell ⟨S,5,none⟩ (.bool false)).setCell ⟨S,6,none⟩ (.bool false))=w1 at*;have hmp1:w1.heap[t.m]?=some (.map es clock):=H1.out.2.1.keep HA.out.1 (by simpa using fun e=>hSm e.symm);have hrg:=run_range_map w1 t.m es clock hmp1;rw[H1.out.2.2]at hrg;have e2:=siAll H1.out.1;simp only at e2;have hlt1:=blkLt H1.out.1;have hsz1:=H1.out.2.2;have HM1:=hide' hmp1;clear hw1 hmp1 d0 d1 d2 d3 d4 df dm;have HF0:=hide' (show FallAt w (w1.alloc (.mapIter (some t.m) clock #[] clock)) S t es clock qd #[] [] es.toList from by
  refine⟨by rw[←H1.out.2.2];exact blkNew _ _,rfl,List.Perm.refl _,(Below.heap_alloc _ _ _ hlt1).trans H1.out.1,(Below.heap_alloc _ _ _ (blkLt HM1.out)).trans HM1.out,fun q d hd=>?_,H1.out.2.1.os,H1.out.2.1.tape,H1.out.2.1.output,by rw[World.size_alloc];omega,fun b hb n1 n2=>?_⟩
  ·have hq:=HA.out.2.2.2.2.1 q d hd;have hq1:=H1.out.2.1.keep hq (by simpa using(HA.out.2.2.2.2.2.2.2 q d hd).2.1);have e:failN d (cntE [] q)=d:=by unfold failN cntE;simp
   rw[e];exact(Below.heap_alloc _ _ _ (blkLt hq1)).trans hq1
  ·exact(Below.heap_alloc _ _ _ (by omega)).trans (H1.out.2.1.block b hb (by simpa using n1)))
 go_wp2_with fail
 generalize w1.alloc (.mapIter (some t.m) clock #[] clock)=w2 at*;go_loopw [3] (fun _ wr=>∃(seen:Array Nat) (vis rem:List MapEntry),Hid (FallAt w wr S t es clock qd seen vis rem)) (fun _ wr=>es.size-seenOf wr w.heap.size)
 case atStart=>exact⟨#[],[],es.toList,HF0⟩
 case round=>
  obtain⟨seen,vis,rem,HJ⟩:=hrel;have hmeas:=seenOf_at HJ.out;go_wp2_with fail
  rcases run_next_at (P:=Tryz.prog) wr 0 w.heap.size t.m clock clock seen es clock HJ.out.it HJ.out.mp HA.out.2.2.1 (Nat.le_refl _)with⟨h0,hrun⟩|⟨e,he,w3,hw3,hrun⟩
  ·have hrem:=HJ.out.over HA.out.2.2.2.1 h0;subst hrem;have f2:=siAll HJ.out.sv;simp only at f2;have hltw:=blkLt HJ.out.sv;rw[hrun];simp only[Result.andThen]
   rw[Oper.upon_value];clear hrun;go_wp2_with fail
   obtain⟨w5,v5,hcl,hm5,k5,hs5⟩:=MapS.clear wr t.m 0 l ⟨es,clock,HJ.out.mp,HA.out.2.1,HA.out.2.2.1,HA.out.2.2.2.1⟩;rw[hcl];simp only[Result.andThen]
   rw[Oper.upon_value];have H5:=hide' (And.intro hm5 (And.intro k5 hs5));clear hcl hm5 k5 hs5 f2;go_wp2;go_end0;obtain⟨hm5,k5,hs5⟩:=H5.out;have F:=HJ.out;have hvis:vis.Perm es.toList:=by have:=F.pm;rwa [List.append_nil]at this
   refine⟨rfl,⟨⟨.slice none 0 0,0,k5.keep F.sv (by simpa using hSm),?_,.inl rfl⟩,by simp⟩,hm5,fun q d hd=>?_,k5.os.trans F.os,k5.tape.trans F.tape,k5.output.trans F.output,by have:=F.size;omega,fun b hb n1 n2 n3=>(k5.block b (Nat.lt_trans hb F.size) (by simpa using n2)).trans (F.fr b hb n1 n3)⟩
   ·exact⟨⟨[],World.ownsRow_nil _ _ _ _,Nat.le_refl _,rfl,by simp⟩,rfl⟩
   ·have hq:=k5.keep (F.qs q d hd) (by simpa using(HA.out.2.2.2.2.2.2.2 q d hd).2.2);have hc:cntE vis q=l.countP (fun p=>qOf p.2==q):=by
     rw[←cntE_of HA.out.2.1 q];exact hvis.countP_eq _
    rw[←hc];exact hq
  ·obtain⟨hee,her⟩:=HJ.out.left he;obtain⟨p,hp,hpe⟩:∃p∈l,e.val=p.2:=by
    have hm':(e.key,e.val)∈es.toList.map (fun e=>(e.key,e.val)):=List.mem_map.2 ⟨e,hee,rfl⟩;rw[HA.out.2.1]at hm';obtain⟨p,hp,h2⟩:=List.mem_map.1 hm';exact⟨p,hp,(congrArg Prod.snd h2).symm⟩
   obtain⟨C,q,i,d,hpv,hd⟩:=HA.out.2.2.2.2.2.1 p hp;rw[hpv]at hpe;have hqe:qOf e.val=q:=by rw[hpe];rfl
   have hlr:w.heap.size<wr.heap.size:=HJ.out.size;have hw4:(setBlock w3 w.heap.size (.mapIter (some t.m) clock (seen.push e.born) clock)).heap[w.heap.size]?=some (.mapIter (some t.m) clock (seen.push e.born) clock):=by
    have:w.heap.size<w3.heap.size:=by rcases hw3 with rfl|rfl<;>exact hlr
    simp[setBlock,this]
   have k4:Chg [w.heap.size] wr (setBlock w3 w.heap.size (.mapIter (some t.m) clock (seen.push e.born) clock)):=by
    rcases hw3 with rfl|rfl
    ·exact⟨rfl,rfl,rfl,by simp[setBlock],fun b hb hn=>by simp only[setBlock];rw[Array.getElem?_setIfInBounds_ne (fun e=>hn (by simp[e]))]⟩
    ·exact⟨rfl,rfl,rfl,by simp[setBlock],fun b hb hn=>by simp only[setBlock];rw[Array.getElem?_setIfInBounds_ne (fun e=>hn (by simp[e]))];rfl⟩
   have hm4:=k4.keep HJ.out.mp (by simp;omega);have hen:=run_entry_at (P:=Tryz.prog) _ w.heap.size t.m clock seen es clock e hw4 hm4 hee HA.out.2.2.2.1;rw[hpe]at hen hrun;unfold partV at hen hrun;have hcn:=HA.out.2.2.2.2.2.2.1 q d hd;have hcnt:cntE es.toList q≤d.n:=by rw[cntE_of HA.out.2.1 q];exact hcn.1
   have hqo:=HA.out.2.2.2.2.2.2.2 q d hd;have hqr:=HJ.out.qs q d hd;have hq4:=k4.keep hqr (by simp;omega);have hc1:cntE vis q+1≤d.n:=by
    have F:=HJ.out;have e1:cntE (vis++rem) q=cntE es.toList q:=F.pm.countP_eq _;have e2:cntE (vis++rem) q=cntE vis q+cntE rem q:=by unfold cntE;rw[List.countP_append]
    have e3:0<cntE rem q:=by
     unfold cntE;exact List.countP_pos_iff.2 ⟨e,her,by simp[hqe]⟩
    omega
   obtain⟨f1,f2⟩:=failN_step d _ hc1;have HQ:=hide' (fun O=>qfail_any q d.k d.kv d.val d.wd d.ft d.cid (d.n-(cntE vis q+1)) (failN d (cntE vis q)).fa d.re d.yv d.vv ((setBlock w3 w.heap.size (.mapIter (some t.m) clock (seen.push e.born) clock)).alloc O) ((Below.heap_alloc _ _ _ (blkLt hq4)).trans (by rw[hq4];unfold qdO;rw[f1];rfl)) (by omega));rw[hrun];simp only[Result.andThen]
   rw[Oper.upon_value];have H4:=hide' (And.intro hw4 (And.intro k4 (And.intro hqe (And.intro hd (And.intro hqo (And.intro hcnt her))))));clear hrun hw4 k4 hm4 hq4 hqr he hee her hp hpv hpe hqe f1 f2;generalize setBlock w3 w.heap.size (.mapIter (some t.m) clock (seen.push e.born) clock)=w4 at*;go_wp2_with fail
   go_at_call 136;refine(HQ.out _).mono ?_;rintro e' w6 ⟨rfl,h6,k6⟩;have H6:=hide' (And.intro h6 k6);clear h6 k6;go_wp2;go_roundw;case rel=>
    obtain⟨rem',hl',hF'⟩:=HJ.out.more H4.out.2.2.2.2.2.2 H4.out.2.2.1 H4.out.2.2.2.1 H4.out.2.2.2.2.1 hlt hlm hSm HA.out.2.2.2.2.2.2.2 H4.out.2.2.2.2.2.1 H4.out.1 H4.out.2.1 H6.out.1 H6.out.2;exact⟨_,_,_,hF'⟩
   case measure=>
    obtain⟨rem',hl',hF'⟩:=HJ.out.more H4.out.2.2.2.2.2.2 H4.out.2.2.1 H4.out.2.2.2.1 H4.out.2.2.2.2.1 hlt hlm hSm HA.out.2.2.2.2.2.2.2 H4.out.2.2.2.2.2.1 H4.out.1 H4.out.2.1 H6.out.1 H6.out.2;have h9:=seenOf_at hF';omega
end Go.Proofs.YtlonjggfnleolaaGreatDoor
namespace Go.Proofs.YtlonjggfnleolaaGreatDoor
open Go.RowKit Go.Shelf
set_option linter.unusedVariables false
variable {d k:Int}
structure PS where
 v:Option (Nat×Nat)⊕Option (Nat×ByteArray)
abbrev PS.un:PS:=⟨.inl none⟩
abbrev PS.op (o id:Nat):PS:=⟨.inl (some (o,id))⟩
abbrev PS.an (st:Nat)(v:ByteArray):PS:=⟨.inr (some (st,v))⟩
abbrev PS.fl:PS:=⟨.inr none⟩
theorem PS.el {m:PS→Prop}(un:m .un)(op:∀o id,m (.op o id))(an:∀st v,m (.an st v))(fl:m .fl)(p:PS):m p:=match p with|⟨.inl none⟩=>un|⟨.inl (some (a,b))⟩=>op a b|⟨.inr (some (a,b))⟩=>an a b|⟨.inr none⟩=>fl
def PS.opn:PS→Bool|⟨.inl none⟩=>true|⟨.inl (some (_,_))⟩=>true|_=>false
def PS.bad:PS→Bool|⟨.inr none⟩=>true|_=>false
def PS.ref:PS→Bool|⟨.inr (some (st,_))⟩=>decide (st=2)|_=>false
def PS.yes:PS→Bool|⟨.inr (some (st,_))⟩=>decide (st=0)|_=>false
def PS.val:PS→ByteArray|⟨.inr (some (_,v))⟩=>v|_=>⟨#[]⟩
structure QS where
 c:Cmd
 ps:List PS
def QS.n (x:QS):Nat:=x.ps.countP PS.opn
def QS.fa (x:QS):Bool:=x.ps.any PS.bad
def QS.re (x:QS):Bool:=x.ps.any PS.ref
def QS.ak (x:QS):Int:=if x.fa=true then 5 else if x.re=true then 5 else if x.c.kind=1 then 1 else if x.c.kind=2 then 2 else if(x.ps.map PS.yes).headD false=true then 3 else 4
def QS.wd (x:QS):ByteArray:=if x.fa=true then downB else if x.re=true then refusedB else⟨#[]⟩
def toldB (d:Int)(x:QS):ByteArray:=if x.c.keys=[]then wrongB d x.c else tellS d x.c.kind x.ak x.c.keys (x.ps.map PS.yes) (x.ps.map PS.val) x.wd x.c.id
def PSOk (k:Int):PS→Prop
 |⟨.inr (some (st,v))⟩=>st≤2∧v.size≤40∧(v.data.toList.isEmpty=true∨(k=1∧st=0))
 |_=>True
structure QSOk (d:Int)(x:QS):Prop where
 w:WOk d x.c
 len:x.ps.length=x.c.keys.length
 ps:∀p∈x.ps,PSOk x.c.kind p
theorem QSOk.right {x:QS}(h:QSOk d x)(hk:x.c.keys≠[]):cmdB x.c.kind x.c.keys x.c.val=true∧(d=2→x.c.keys.length=1):=by
 rcases h.w.ok.or_ with⟨h1,_,_,h2⟩|⟨_,h1,_⟩
 ·exact⟨h1,h2⟩
 ·exact absurd h1 hk
theorem val_size {p:PS}(h:PSOk k p):p.val.size≤40:=by
 cases p using PS.el with
 |an st v=>exact h.2.1
 |_=>exact Nat.zero_le _
theorem find_ok {p:PS}(h:PSOk k p):findOk (p.yes,p.val)=true:=by
 have hs:=val_size h;unfold findOk;rw[Bool.and_eq_true,decide_eq_true_eq];refine⟨by simp only;omega,?_⟩;cases p using PS.el with
 |an st v=>
  rcases h.2.2 with h1|⟨_,h1⟩
  ·simp[PS.val,h1]
  ·simp[PS.yes,h1]
 |_=>rfl
theorem QSOk.answer {x:QS}(h:QSOk d x)(hk:x.c.keys≠[]):answerB x.c.kind x.c.keys x.c.val x.ak (x.ps.map PS.yes) (x.ps.map PS.val) x.wd=true:=by
 obtain⟨h1,h2⟩:=h.right hk;have hkind:=(cmdB_in h1).1;have a5:∀wd,wordB wd=true→answerB x.c.kind x.c.keys x.c.val 5 (x.ps.map PS.yes) (x.ps.map PS.val) wd=true:=fun wd hw=>by
  unfold answerB;rw[h1,Bool.or_true,Bool.true_and,if_neg (by decide),if_neg (by decide),if_neg (by decide),if_pos rfl,hw]
 by_cases hf:x.fa=true
 ·have e1:x.ak=5:=by unfold QS.ak;rw[if_pos hf]
  have e2:x.wd=downB:=by unfold QS.wd;rw[if_pos hf]
  rw[e1,e2];exact a5 _ (by decide)
 ·by_cases hr:x.re=true
  ·have e1:x.ak=5:=by unfold QS.ak;rw[if_neg hf,if_pos hr]
   have e2:x.wd=refusedB:=by unfold QS.wd;rw[if_neg hf,if_pos hr]
   rw[e1,e2];exact a5 _ (by decide)
  ·rcases hkind with e|e|e
   ·have e1:x.ak=1:=by unfold QS.ak;rw[if_neg hf,if_neg hr,if_pos e]
    rw[e1];unfold answerB;rw[h1,Bool.or_true,Bool.true_and,if_pos rfl,e];unfold findsB;rw[Bool.and_eq_true,Bool.and_eq_true,Bool.and_eq_true,decide_eq_true_eq,decide_eq_true_eq,decide_eq_true_eq,List.all_eq_true];refine⟨rfl,⟨by rw[List.length_map,h.len],by rw[List.length_map,h.len]⟩,fun p hp=>?_⟩;rw[List.zip_map']at hp;obtain⟨y,hy,rfl⟩:=List.mem_map.1 hp;exact find_ok (h.ps y hy)
   ·have e1:x.ak=2:=by unfold QS.ak;rw[if_neg hf,if_neg hr,e];rfl
    rw[e1];unfold answerB;rw[h1,Bool.or_true,Bool.true_and,if_neg (by decide),if_pos rfl,e];rfl
   ·have e1:x.ak=3∨x.ak=4:=by
     unfold QS.ak;rw[if_neg hf,if_neg hr,e,if_neg (by decide),if_neg (by decide)];split<;>simp
    unfold answerB;rw[h1,Bool.or_true,Bool.true_and,if_neg (by omega),if_neg (by omega),if_pos e1,e];rfl
theorem QSOk.say (hd:d=1∨d=2∨d=3){x:QS}(h:QSOk d x)(hk:x.c.keys≠[]):sayB d x.c.kind x.c.keys.length x.c.id=true:=by
 have h1:=h.w.cm.id0;have h2:=h.w.cm.id1;unfold sayB dialB;rcases hd with rfl|rfl|rfl
 ·simp
 ·have h3:=(h.right hk).2 rfl;have h4:=(cmdB_in (h.right hk).1).1;unfold frSayB;rw[h3];simp;omega
 ·simp
end Go.Proofs.YtlonjggfnleolaaGreatDoor
namespace Go.Proofs.YtlonjggfnleolaaGreatDoor
open Go.RowKit Go.Shelf Go.Conc
set_option linter.unusedVariables false
variable {W W':World}{win g:Nat}{v:CliI}{s:CliS}
structure CorAt (W:World)(win:Nat)(v:CliI)(s:CliS):Prop where
 blk:W.heap[v.C]?=some (clO v.R v.ch v.wv v.bp v.bv)
 rd:RdrAt W v.R v.hb v.t s.st
 di:dT s.d v.t
 chan:∃buf a b tm,W.heap[v.ch]?=some (.chan win buf false a b tm)∧buf.size=s.waits.length
 row:W.ownsRow 0 175 1 v.wv s.waits.length (v.qs.map ptrV)
 ql:v.qs.length=s.waits.length
 bpv:v.bp= .pointer none∨v.bp= .pointer (some ⟨v.C,3,none⟩)
 bld:BldRow W v.bv s.told
 ab:∀b,v.bv.ownBlock=some b→v.hb≠some b
theorem CorAt.kind (h:CorAt W win v s):∀b∈v.foot,(∃Z T f,W.heap[b]?=some (.cells Z T f)∧(T=125∨T=134∨T=5∨T=175))∨∃cap buf cl a c tm,W.heap[b]?=some (.chan cap buf cl a c tm):=by
 intro b hb;unfold CliI.foot at hb;rcases List.mem_cons.1 hb with rfl|hb
 ·exact .inl ⟨_,_,_,h.blk,.inl rfl⟩
 rcases List.mem_cons.1 hb with rfl|hb
 ·obtain⟨buf,a,c,tm,h1,_⟩:=h.chan;exact .inr ⟨_,_,_,_,_,_,h1⟩
 rcases List.mem_cons.1 hb with rfl|hb
 ·obtain⟨Z,hZ⟩:=h.rd.dQ;exact .inl ⟨_,_,_,hZ,.inr (.inl rfl)⟩
 rcases List.mem_append.1 hb with hb|hb
 ·rcases List.mem_append.1 hb with hb|hb
  ·have hb':v.hb=some b:=by
    cases ho:v.hb with
    |none=>rw[ho]at hb;cases hb
    |some g=>rw[ho]at hb;simp at hb;rw[hb]
   have hr:=h.rd;rw[hb']at hr;obtain⟨Z,hZ⟩:=hr.hbQ;exact .inl ⟨_,_,_,hZ,.inr (.inr (.inl rfl))⟩
  ·obtain⟨cur,hc⟩:=ownsRow_blk h.row (mem_own hb);exact .inl ⟨_,_,_,hc,.inr (.inr (.inr rfl))⟩
 ·obtain⟨cur,fz,hc⟩:=h.bld.blk (mem_own hb);exact .inl ⟨_,_,_,hc,.inr (.inr (.inl rfl))⟩
theorem CorAt.old (h:CorAt W win v s):∀b∈v.foot,b<W.heap.size:=by
 intro b hb;rcases h.kind b hb with⟨Z,T,f,h1,_⟩|⟨cap,buf,cl,a,c,tm,h1⟩
 ·exact blkLt h1
 ·exact blkLt h1
theorem CorAt.apart (h:CorAt W win v s){b T:Nat}{Z:Array Value}{f:Nat×Nat}(hb:W.heap[b]?=some (.cells Z T f))(hT:T≠125∧T≠134∧T≠5∧T≠175):b∉v.foot:=by
 intro hm;rcases h.kind b hm with⟨Z',T',f',h1,h2⟩|⟨cap,buf,cl,a,c,tm,h1⟩
 ·rw[hb]at h1;simp at h1;obtain⟨_,rfl,_⟩:=h1;rcases h2 with h|h|h|h
  ·exact hT.1 h
  ·exact hT.2.1 h
  ·exact hT.2.2.1 h
  ·exact hT.2.2.2 h
 ·rw[hb]at h1;cases h1
theorem CorAt.keep (h:CorAt W win v s)(k:∀b∈v.foot,W'.heap[b]?=W.heap[b]?):CorAt W' win v s:=by
 obtain⟨buf,a,b,tm,c1,c2⟩:=h.chan;exact⟨(k _ (by simp[CliI.foot])).trans h.blk,h.rd.other (k _ (by simp[CliI.foot])) (fun b hb=>k b (by simp[CliI.foot,hb])),h.di,⟨buf,a,b,tm,(k _ (by simp[CliI.foot])).trans c1,c2⟩,ownsRow_other h.row (fun g hg=>k g (by simp[CliI.foot,hg])),h.ql,h.bpv,h.bld.other (fun g hg=>k g (by simp[CliI.foot,hg])),h.ab⟩
theorem CorAt.below (h:CorAt W win v s)(hb:Below W.heap.size W W'):CorAt W' win v s:=h.keep (fun b hm=>hb.block b (h.old b hm))
theorem CorAt.nC (h:CorAt W win v s):v.C≠v.ch∧v.C≠v.R∧v.hb≠some v.C∧v.wv.ownBlock≠some v.C∧v.bv.ownBlock≠some v.C:=by
 have hC:=h.blk;unfold clO at hC;obtain⟨buf,a,b,tm,c1,_⟩:=h.chan;obtain⟨Z,hZ⟩:=h.rd.dQ;refine⟨fun e=>?_,fun e=>?_,fun e=>?_,fun e=>?_,fun e=>?_⟩
 ·rw[←e,hC]at c1;cases c1
 ·rw[←e,hC]at hZ;cases hZ
 ·have hr:=h.rd;rw[e]at hr;obtain⟨Z',hZ'⟩:=hr.hbQ;rw[hC]at hZ';cases hZ'
 ·obtain⟨cur,hc⟩:=ownsRow_blk h.row e;rw[hC]at hc;cases hc
 ·obtain⟨cur,fz,hc⟩:=h.bld.blk e;rw[hC]at hc;cases hc
theorem CorAt.nB (h:CorAt W win v s)(hg:v.bv.ownBlock=some g):g≠v.ch∧g≠v.R∧v.hb≠some g∧v.wv.ownBlock≠some g:=by
 obtain⟨cur,fz,hc⟩:=h.bld.blk hg;obtain⟨buf,a,b,tm,c1,_⟩:=h.chan;obtain⟨Z,hZ⟩:=h.rd.dQ;refine⟨fun e=>?_,fun e=>?_,h.ab g hg,fun e=>?_⟩
 ·rw[←e,hc]at c1;cases c1
 ·rw[←e,hc]at hZ;cases hZ
 ·obtain⟨cur',hc'⟩:=ownsRow_blk h.row e;rw[hc]at hc';cases hc'
theorem CorAt.nW (h:CorAt W win v s)(hg:v.wv.ownBlock=some g):g≠v.ch∧g≠v.R∧v.hb≠some g∧v.bv.ownBlock≠some g:=by
 obtain⟨cur,hc⟩:=ownsRow_blk h.row hg;obtain⟨buf,a,b,tm,c1,_⟩:=h.chan;obtain⟨Z,hZ⟩:=h.rd.dQ;refine⟨fun e=>?_,fun e=>?_,fun e=>?_,fun e=>?_⟩
 ·rw[←e,hc]at c1;cases c1
 ·rw[←e,hc]at hZ;cases hZ
 ·have hr:=h.rd;rw[e]at hr;obtain⟨Z',hZ'⟩:=hr.hbQ;rw[hc]at hZ';cases hZ'
 ·obtain⟨cur',fz,hc'⟩:=h.bld.blk e;rw[hc]at hc';cases hc'
theorem CorAt.nCh (h:CorAt W win v s):v.ch≠v.R∧v.hb≠some v.ch∧v.wv.ownBlock≠some v.ch∧v.bv.ownBlock≠some v.ch:=by
 obtain⟨buf,a,b,tm,c1,_⟩:=h.chan;obtain⟨Z,hZ⟩:=h.rd.dQ;refine⟨fun e=>?_,fun e=>?_,fun e=>?_,fun e=>?_⟩
 ·rw[←e,c1]at hZ;cases hZ
 ·have hr:=h.rd;rw[e]at hr;obtain⟨Z',hZ'⟩:=hr.hbQ;rw[c1]at hZ';cases hZ'
 ·obtain⟨cur,hc⟩:=ownsRow_blk h.row e;rw[c1]at hc;cases hc
 ·obtain⟨cur,fz,hc⟩:=h.bld.blk e;rw[c1]at hc;cases hc
theorem CorAt.wrote (h:CorAt W win v s)(bv':Value)(told':List UInt8)(h1:W'.heap[v.C]?=some (clO v.R v.ch v.wv (.pointer (some ⟨v.C,3,none⟩)) bv'))(h2:BldRow W' bv' told')(h3:Chg (v.C::v.bv.ownBlock.toList) W W')(h4:bv'.ownBlock=v.bv.ownBlock∨∃g,bv'.ownBlock=some g∧W.heap.size≤g):CorAt W' win {v with bp:= .pointer (some ⟨v.C,3,none⟩),bv:=bv'} {s with told:=told'}∧Chg v.foot W W'∧Later W v.foot (CliI.foot {v with bp:= .pointer (some ⟨v.C,3,none⟩),bv:=bv'}):=by
 obtain⟨n1,n2,n3,n4,n5⟩:=h.nC;have hk:∀b∈v.foot,b≠v.C→v.bv.ownBlock≠some b→W'.heap[b]?=W.heap[b]?:=fun b hb hn hm=>h3.block b (h.old b hb) (fun hm'=>by
  rcases List.mem_cons.1 hm' with e|e
  ·exact hn e
  ·exact hm (optMem e))
 obtain⟨buf,a,b,tm,c1,c2⟩:=h.chan;have hch:=h.nCh;refine⟨⟨h1,h.rd.other (hk _ (by simp[CliI.foot]) (fun e=>n2 e.symm) (fun e=>(h.nB e).2.1 rfl)) (fun b hb=>hk b (by simp[CliI.foot,hb]) (fun e=>n3 (by rw[hb,e])) (fun e=>(h.nB e).2.2.1 hb)),h.di,⟨buf,a,b,tm,(hk _ (by simp[CliI.foot]) (fun e=>n1 e.symm) hch.2.2.2).trans c1,c2⟩,ownsRow_other h.row (fun g hg=>hk g (by simp[CliI.foot,hg]) (fun e=>n4 (by rw[hg,e])) (fun e=>(h.nB e).2.2.2 hg)),h.ql,.inr rfl,h2,fun b hb=>?_⟩,h3.more (fun x hx=>?_),fun b hb=>?_⟩
 ·rcases h4 with e|⟨g,e,hg⟩
  ·exact h.ab b (by rw[←e];exact hb)
  ·intro hb';have h5:=h.old b (by simp only at hb';simp[CliI.foot,hb']);rw[e]at hb;cases hb;omega
 ·rcases List.mem_cons.1 hx with e|e
  ·rw[e];simp[CliI.foot]
  ·simp[CliI.foot,optMem e]
 ·rcases h4 with e|⟨g,e,hg⟩
  ·left;unfold CliI.foot at hb⊢;simp only[e]at hb;exact hb
  ·unfold CliI.foot at hb⊢;simp only[e]at hb;by_cases hbg:b=g
   ·exact .inr (by omega)
   ·left;simp[hbg]at hb⊢;rcases hb with e|e|e|e|e<;>simp[e]
theorem CorAt.popped {W6 W7:World}{c:Cmd}{cs:List Cmd}{q:Nat}{qs:List Nat}{cap:Nat}(h:CorAt W win v s)(hs:s.waits=c::cs)(hq:v.qs=q::qs)(hw:v.wv= .slice (some ⟨g,0,none⟩) (qs.length+1) cap)(h6:W6.ownsRow 0 175 1 (.slice (some ⟨g,0,none⟩) qs.length cap) qs.length (qs.map ptrV))(k6:Chg [g] W W6)(buf':Array Value)(a' b':Nat)(tm':Bool)(hb':buf'.size=cs.length)(h7:W7=(W6.setCell ⟨v.C,2,none⟩ (.slice (some ⟨g,0,none⟩) qs.length cap)).setChan v.ch win buf' false a' b' tm'):CorAt W7 win {v with wv:= .slice (some ⟨g,0,none⟩) qs.length cap,qs:=qs} {s with waits:=cs}∧Chg v.foot W W7∧CliI.foot {v with wv:= .slice (some ⟨g,0,none⟩) qs.length cap,qs:=qs}=v.foot:=by
 obtain⟨n1,n2,n3,n4,n5⟩:=h.nC;have hwo:v.wv.ownBlock=some g:=by rw[hw];rfl
 have hW:=h.nW hwo;obtain⟨m1,m2,m3,m4⟩:=h.nCh;have hfoot:CliI.foot {v with wv:= .slice (some ⟨g,0,none⟩) qs.length cap,qs:=qs}=v.foot:=by unfold CliI.foot;simp only[hw];rfl
 have kb:∀b<W.heap.size,b≠g→b≠v.C→b≠v.ch→W7.heap[b]?=W.heap[b]?:=fun b hb e1 e2 e3=>by
  rw[h7];rw[(chg_setChan _ _ _ _ _ _ _ _).block b (by rw[World.size_setCell];exact Nat.lt_of_lt_of_le hb k6.size) (by simpa using e3)];rw[Below.heap_setCell W6 ⟨v.C,2,none⟩ _ b e2];exact k6.block b hb (by simpa using e1)
 have hgC:v.C≠g:=fun e=>n4 (by rw[hwo,e])
 have hC6:W6.heap[v.C]?=some (clO v.R v.ch v.wv v.bp v.bv):=(k6.block v.C (blkLt h.blk) (by simpa using hgC)).trans h.blk;have hC7:=blkSet (i:=2) hC6 (.slice (some ⟨g,0,none⟩) qs.length cap);obtain⟨buf,a,b,tm,c1,c2⟩:=h.chan;have hlc:v.ch<(W6.setCell ⟨v.C,2,none⟩ (.slice (some ⟨g,0,none⟩) qs.length cap)).heap.size:=by rw[World.size_setCell];exact Nat.lt_of_lt_of_le (blkLt c1) k6.size
 have hqlen:qs.length=cs.length:=by have:=h.ql;rw[hs,hq]at this;simpa using this
 refine⟨⟨?_,h.rd.other (kb _ (h.old _ (by simp[CliI.foot])) (fun e=>hW.2.1 e.symm) (fun e=>n2 e.symm) (fun e=>m1 e.symm)) (fun b hb=>kb b (h.old b (by simp[CliI.foot,hb])) (fun e=>hW.2.2.1 (by rw[hb,e])) (fun e=>n3 (by rw[hb,e])) (fun e=>m2 (by rw[hb,e]))),h.di,⟨buf',a',b',tm',by rw[h7];exact heap_setChan _ _ _ _ _ _ _ _ hlc,hb'⟩,?_,hqlen,h.bpv,h.bld.other (fun b hb=>kb b (h.old b (by simp[CliI.foot,hb])) (fun e=>hW.2.2.2 (by rw[hb,e])) (fun e=>n5 (by rw[hb,e])) (fun e=>m4 (by rw[hb,e]))),h.ab⟩,?_,hfoot⟩
 ·rw[h7];rw[(chg_setChan _ _ _ _ _ _ _ _).block v.C (by rw[World.size_setCell];exact blkLt hC6) (by simpa using n1)];exact hC7
 ·have h8:W7.ownsRow 0 175 1 (.slice (some ⟨g,0,none⟩) qs.length cap) qs.length (qs.map ptrV):=ownsRow_other h6 (fun g' hg'=>by
   cases hg';rw[h7,(chg_setChan _ _ _ _ _ _ _ _).block g (by rw[World.size_setCell];obtain⟨cur,hc⟩:=ownsRow_blk h6 rfl;exact blkLt hc) (by simpa using hW.1),Below.heap_setCell W6 ⟨v.C,2,none⟩ _ g (fun e=>hgC e.symm)])
  simp only
  rw[←hqlen];exact h8
 ·have k7:Chg v.foot W (W6.setCell ⟨v.C,2,none⟩ (.slice (some ⟨g,0,none⟩) qs.length cap)):=(k6.more (M':=v.foot) (fun x hx=>by simp at hx;rw[hx];simp[CliI.foot,hwo])).set (.inl (by simp[CliI.foot])) _;rw[h7];exact k7.trans (chg_setChan _ _ _ _ _ _ _ _) (fun b hb=> .inl (by simp at hb;rw[hb];simp[CliI.foot]))
theorem CorAt.waitLen (h:CorAt W win v s):waitLen W v.C=s.waits.length:=by
 have c2:=(clCells h.blk).2.2.1;unfold YtlonjggfnleolaaGreatDoor.waitLen;rw[c2];rcases h.row.2 with⟨e,h0⟩|⟨g,cap,cur,e,_⟩
 ·rw[e,h0]
 ·rw[e]
theorem CorAt.chan' (h:CorAt W win v s)(k:Chg [v.ch] W W')(buf':Array Value)(a b:Nat)(tm:Bool)(hb:buf'.size=s.waits.length)(hc:W'.heap[v.ch]?=some (.chan win buf' false a b tm)):CorAt W' win v s:=by
 obtain⟨n1,n2,n3,n4,n5⟩:=h.nC;obtain⟨m1,m2,m3,m4⟩:=h.nCh;have kb:∀b∈v.foot,b≠v.ch→W'.heap[b]?=W.heap[b]?:=fun b hb hn=>k.block b (h.old b hb) (by simpa using hn)
 obtain⟨buf0,a0,b0,tm0,c1,_⟩:=h.chan;exact⟨(kb _ (by simp[CliI.foot]) n1).trans h.blk,h.rd.other (kb _ (by simp[CliI.foot]) (fun e=>m1 e.symm)) (fun b hb=>kb b (by simp[CliI.foot,hb]) (fun e=>m2 (by rw[hb,e]))),h.di,⟨buf',a,b,tm,hc,hb⟩,ownsRow_other h.row (fun g hg=>kb g (by simp[CliI.foot,hg]) (fun e=>m3 (by rw[hg,e]))),h.ql,h.bpv,h.bld.other (fun g hg=>kb g (by simp[CliI.foot,hg]) (fun e=>m4 (by rw[hg,e]))),h.ab⟩
theorem CorAt.took (h:CorAt W win v s)(st':St)(hT:RdrTo W W' v.R v.hb v.t st'):∃hb',CorAt W' win {v with hb:=hb'} {s with st:=st'}∧Chg v.foot W W'∧Later W v.foot (CliI.foot {v with hb:=hb'}):=by
 obtain⟨⟨hb',hR,hF⟩,hTn⟩:=hT;obtain⟨n1,n2,n3,n4,n5⟩:=h.nC;obtain⟨m1,m2,m3,m4⟩:=h.nCh;have k:Chg v.foot W W':=⟨hTn.os,hTn.tape,hTn.output,hTn.size,fun b hb hn=>hTn.block b hb (fun e=>hn (by rw[e];simp[CliI.foot])) (fun e=>hn (by simp[CliI.foot,←e]))⟩
 have kb:∀b∈v.foot,b≠v.R→v.hb≠some b→W'.heap[b]?=W.heap[b]?:=fun b hb h1 h2=>hTn.block b (h.old b hb) h1 (fun e=>h2 (by rw[e]))
 obtain⟨buf,a,b,tm,c1,c2⟩:=h.chan;refine⟨hb',⟨(kb _ (by simp[CliI.foot]) n2 n3).trans h.blk,hR,h.di,⟨buf,a,b,tm,(kb _ (by simp[CliI.foot]) m1 m2).trans c1,c2⟩,ownsRow_other h.row (fun g hg=>kb g (by simp[CliI.foot,hg]) (h.nW hg).2.1 (h.nW hg).2.2.1),h.ql,h.bpv,h.bld.other (fun g hg=>kb g (by simp[CliI.foot,hg]) (h.nB hg).2.1 (h.nB hg).2.2.1),fun b hb hb2=>?_⟩,k,fun b hb=>?_⟩
 ·simp only at hb hb2;have hlt:=h.old b (by simp[CliI.foot,hb]);rcases hF with e|e|⟨j,e,hj⟩
  ·exact h.ab b hb (by rw[←e];exact hb2)
  ·rw[e]at hb2;cases hb2
  ·rw[e]at hb2;cases hb2;omega
 ·unfold CliI.foot at hb⊢;simp at hb⊢;rcases hb with e|e|e|e|e|e
  ·simp[e]
  ·simp[e]
  ·simp[e]
  ·rcases hF with e2|e2|⟨j,e2,hj⟩
   ·rw[e2]at e;simp[e]
   ·rw[e2]at e;cases e
   ·rw[e2]at e;cases e;exact .inr hj
  ·simp[e]
  ·simp[e]
theorem CorAt.next (h:CorAt W win v s)(x:StepR)(hx:readR s.d s.st.held=some x)(q g' c':Nat)(buf':Array Value)(s' r':Nat)(tm:Bool)(hb':Option Nat)(h1:W'.heap[v.C]?=some (clO v.R v.ch (.slice (some ⟨g',0,none⟩) (s.waits.length+1) c') v.bp v.bv))(h2:W'.ownsRow 0 175 1 (.slice (some ⟨g',0,none⟩) (s.waits.length+1) c') (s.waits.length+1) (v.qs.map ptrV++[.pointer (some ⟨q,0,none⟩)]))(h3:v.wv.ownBlock=some g'∨W.heap.size≤g')(h4:buf'.size=s.waits.length+1)(h5:W'.heap[v.ch]?=some (.chan win buf' false s' r' tm))(h6:RdrAt W' v.R hb' v.t (afterS s.st x))(h7:Fresh W v.hb hb')(h8:NewQ W.heap.size W' q x.c)(h9:Chg (v.C::v.ch::v.R::(v.hb.toList++v.wv.ownBlock.toList)) W W'):CorAt W' win ⟨v.C,v.R,v.ch,v.t,hb',.slice (some ⟨g',0,none⟩) (s.waits.length+1) c',v.bp,v.bv,v.qs++[q]⟩ ⟨s.d,afterS s.st x,s.waits++[x.c],s.told⟩∧Chg v.foot W W'∧Later W v.foot (CliI.foot ⟨v.C,v.R,v.ch,v.t,hb',.slice (some ⟨g',0,none⟩) (s.waits.length+1) c',v.bp,v.bv,v.qs++[q]⟩):=by
 have hsub:∀b∈v.C::v.ch::v.R::(v.hb.toList++v.wv.ownBlock.toList),b∈v.foot:=fun b hb=>by
  unfold CliI.foot;simp at hb⊢;rcases hb with e|e|e|e|e<;>simp[e]
 obtain⟨n1,n2,n3,n4,n5⟩:=h.nC;obtain⟨m1,m2,m3,m4⟩:=h.nCh;refine⟨⟨h1,h6,h.di,⟨buf',s',r',tm,h5,by simp[h4]⟩,?_,by simp[h.ql],h.bpv,h.bld.other (fun b hb=>h9.block b (h.old b (by simp[CliI.foot,hb])) (fun hm=>?_)),fun b hb hb2=>?_⟩,h9.more hsub,fun b hb=>?_⟩
 ·simp only[List.length_append,List.length_singleton,List.map_append,List.map_cons,List.map_nil]
  exact h2
 ·obtain⟨o1,o2,o3,o4⟩:=h.nB hb;simp at hm;rcases hm with e|e|e|e|e
  ·exact n5 (by rw[hb,e])
  ·exact o1 e
  ·exact o2 e
  ·exact o3 e
  ·exact o4 e
 ·simp only at hb hb2;have hlt:=h.old b (by simp[CliI.foot,hb]);rcases h7 with e|e|⟨k,e,hk⟩
  ·exact h.ab b hb (by rw[←e];exact hb2)
  ·rw[e]at hb2;cases hb2
  ·rw[e]at hb2;cases hb2;omega
 ·unfold CliI.foot at hb⊢;simp at hb⊢;rcases hb with e|e|e|e|e|e
  ·simp[e]
  ·simp[e]
  ·simp[e]
  ·rcases h7 with e2|e2|⟨k,e2,hk⟩
   ·rw[e2]at e;simp[e]
   ·rw[e2]at e;cases e
   ·rw[e2]at e;cases e;exact .inr hk
  ·have e':g'=b:=by simpa [Value.ownBlock]using e
   rcases h3 with e2|e2
   ·rw[e']at e2;simp[e2]
   ·exact .inr (by omega)
  ·simp[e]
variable {W W':World}{x:QS}{b win:Nat}{xs:List QS}
structure QI where
 q:Nat
 yb:Nat
 vb:Nat
 kb:Option Nat
 kv:Value
def QI.foot (v:QI):List Nat:=v.q::v.yb::v.vb::v.kb.toList
def yesC (ps:List PS):Array Value:=(ps.map (fun p=>Value.bool p.yes)).toArray
def valC (ps:List PS):Array Value:=(ps.map (fun p=>Value.string p.val)).toArray
def qdOf (v:QI)(x:QS):QD:=⟨x.c.kind,v.kv,x.c.val,x.c.word,x.c.fatal,x.c.id,x.n,x.fa,x.re,.slice (some ⟨v.yb,0,none⟩) x.ps.length x.ps.length,.slice (some ⟨v.vb,0,none⟩) x.ps.length x.ps.length⟩
structure QuAt (W:World)(v:QI)(x:QS):Prop where
 blk:W.heap[v.q]?=some (qdO (qdOf v x))
 yes:W.heap[v.yb]?=some (.cells (yesC x.ps) 4 (0,0))
 val:W.heap[v.vb]?=some (.cells (valC x.ps) 9 (0,0))
 keys:(x.c.keys=[]∧v.kb=none∧∃ka kc,v.kv= .slice ka 0 kc)∨∃b c Z,v.kb=some b∧b≠v.vb∧v.kv= .slice (some ⟨b,0,none⟩) x.c.keys.length c∧x.c.keys.length≤c∧W.heap[b]?=some (.cells Z 9 (0,0))∧∀(i:Nat) (k:ByteArray),x.c.keys[i]?=some k→Z[i]?=some (.string k)
theorem QuAt.kind {v:QI}(h:QuAt W v x):∀b∈v.foot,∃Z T,W.heap[b]?=some (.cells Z T (0,0))∧(T=216∨T=4∨T=9):=by
 intro b hb;unfold QI.foot at hb;rcases List.mem_cons.1 hb with rfl|hb
 ·exact⟨_,_,h.blk,.inl rfl⟩
 rcases List.mem_cons.1 hb with rfl|hb
 ·exact⟨_,_,h.yes,.inr (.inl rfl)⟩
 rcases List.mem_cons.1 hb with rfl|hb
 ·exact⟨_,_,h.val,.inr (.inr rfl)⟩
 ·have hb:=optMem hb;rcases h.keys with⟨_,e,_⟩|⟨b',c,Z,e,_,_,_,hZ,_⟩
  ·rw[e]at hb;cases hb
  ·rw[e]at hb;cases hb;exact⟨_,_,hZ,.inr (.inr rfl)⟩
theorem QuAt.old {v:QI}(h:QuAt W v x):∀b∈v.foot,b<W.heap.size:=fun b hb=>by
 obtain⟨Z,T,h1,_⟩:=h.kind b hb
 exact blkLt h1
theorem QuAt.keep {v:QI}(h:QuAt W v x)(k:∀b∈v.foot,W'.heap[b]?=W.heap[b]?):QuAt W' v x:=by
 refine⟨(k _ (by simp[QI.foot])).trans h.blk,(k _ (by simp[QI.foot])).trans h.yes,(k _ (by simp[QI.foot])).trans h.val,?_⟩;rcases h.keys with e|⟨b',c,Z,e,e2,e3,e4,hZ,e5⟩
 ·exact .inl e
 ·exact .inr ⟨b',c,Z,e,e2,e3,e4,(k b' (by simp[QI.foot,e])).trans hZ,e5⟩
theorem QuAt.nd {v:QI}(h:QuAt W v x):v.foot.Nodup:=by
 have h1:=h.blk;have h2:=h.yes;have h3:=h.val;unfold qdO quO at h1;have n1:v.q≠v.yb:=fun e=>by rw[e,h2]at h1;simp at h1
 have n2:v.q≠v.vb:=fun e=>by rw[e,h3]at h1;simp at h1
 have n3:v.yb≠v.vb:=fun e=>by rw[e,h3]at h2;simp at h2
 unfold QI.foot;rcases h.keys with⟨_,e,_⟩|⟨b',c,Z,e,e2,_,_,hZ,_⟩
 ·rw[e];simp[n1,n2,n3]
 ·have n4:v.q≠b':=fun e=>by rw[e,hZ]at h1;simp at h1
  have n5:v.yb≠b':=fun e=>by rw[e,hZ]at h2;simp at h2
  have n6:v.vb≠b':=fun e=>e2 e.symm
  rw[e];simp[n1,n2,n3,n4,n5,n6]
def feetQ (qs:List QI):List Nat:=(qs.map QI.foot).flatten
theorem mem_feetQ {qs:List QI}:b∈feetQ qs↔∃v∈qs,b∈v.foot:=by
 unfold feetQ;rw[List.mem_flatten];constructor
 ·rintro ⟨l,hl,hb⟩;obtain⟨v,hv,rfl⟩:=List.mem_map.1 hl;exact⟨v,hv,hb⟩
 ·rintro ⟨v,hv,hb⟩;exact⟨_,List.mem_map.2 ⟨v,hv,rfl⟩,hb⟩
structure QusAt (W:World)(qs:List QI)(xs:List QS):Prop where
 len:qs.length=xs.length
 qu:∀(i:Nat) (v:QI) (x:QS),qs[i]?=some v→xs[i]?=some x→QuAt W v x
 nd:(feetQ qs).Nodup
theorem QusAt.get {qs:List QI}(h:QusAt W qs xs){v:QI}(hv:v∈qs):∃(i:Nat) (x:QS),qs[i]?=some v∧xs[i]?=some x∧QuAt W v x:=by
 obtain⟨i,hi,e⟩:=List.mem_iff_getElem.1 hv;have hi2:i<xs.length:=by rw[←h.len];exact hi
 have e1:qs[i]?=some v:=by rw[List.getElem?_eq_getElem hi,e]
 exact⟨i,xs[i],e1,List.getElem?_eq_getElem hi2,h.qu i _ _ e1 (List.getElem?_eq_getElem hi2)⟩
theorem QusAt.kind {qs:List QI}(h:QusAt W qs xs):∀b∈feetQ qs,∃Z T,W.heap[b]?=some (.cells Z T (0,0))∧(T=216∨T=4∨T=9):=fun b hb=>by
 obtain⟨v,hv,hbv⟩:=mem_feetQ.1 hb
 obtain⟨i,x,_,_,hq⟩:=h.get hv
 exact hq.kind b hbv
theorem QusAt.old {qs:List QI}(h:QusAt W qs xs):∀b∈feetQ qs,b<W.heap.size:=fun b hb=>by
 obtain⟨Z,T,h1,_⟩:=h.kind b hb
 exact blkLt h1
theorem QusAt.keep {qs:List QI}(h:QusAt W qs xs)(k:∀b∈feetQ qs,W'.heap[b]?=W.heap[b]?):QusAt W' qs xs:=
 ⟨h.len,fun i v x hv hx=>(h.qu i v x hv hx).keep (fun b hb=>k b (mem_feetQ.2 ⟨v,List.mem_of_getElem? hv,hb⟩)),h.nd⟩
theorem feetQ_cons (v:QI)(qs:List QI):feetQ (v::qs)=v.foot++feetQ qs:=rfl
theorem feetQ_app (a b:List QI):feetQ (a++b)=feetQ a++feetQ b:=by unfold feetQ;simp
theorem feetQ_one (v:QI):feetQ [v]=v.foot:=by unfold feetQ;simp
theorem QusAt.tail {v:QI}{qs:List QI}(h:QusAt W (v::qs) (x::xs)):QuAt W v x∧QusAt W qs xs:=by
 refine⟨h.qu 0 v x rfl rfl,by have:=h.len;simpa using this,fun i u y hu hy=>h.qu (i+1) u y (by simpa using hu) (by simpa using hy),?_⟩;have:=h.nd;rw[feetQ_cons]at this;exact(List.nodup_append.1 this).2.1
theorem QusAt.snoc {v:QI}{qs:List QI}(h:QusAt W qs xs)(hv:QuAt W v x)(hn:∀b∈v.foot,b∉feetQ qs):QusAt W (qs++[v]) (xs++[x]):=by
 refine⟨by simp[h.len],fun i u y hu hy=>?_,?_⟩
 ·by_cases hi:i<qs.length
  ·rw[List.getElem?_append_left hi]at hu;rw[List.getElem?_append_left (by rw[←h.len];exact hi)]at hy;exact h.qu i u y hu hy
  ·have hi2:i=qs.length:=by
    have:=(List.getElem?_eq_some_iff.1 hu).1;simp at this;omega
   subst hi2;rw[List.getElem?_append_right (Nat.le_refl _)]at hu;rw[List.getElem?_append_right (by rw[h.len];exact Nat.le_refl _),←h.len]at hy;simp at hu hy;subst hu hy;exact hv
 ·rw[feetQ_app,feetQ_one];exact List.nodup_append.2 ⟨h.nd,hv.nd,fun a ha b hb e=>hn b hb (e▸ha)⟩
theorem QusAt.ap:∀{qs:List QI} {xs:List QS},QusAt W qs xs→∀(i j:Nat) (v u:QI),i≠j→qs[i]?=some v→qs[j]?=some u→∀b∈v.foot,b∉u.foot:=by
 intro qs;induction qs with
 |nil=>intro xs h i j v u _ hv;simp at hv
 |cons q qs ih=>
  intro xs h i j v u hij hv hu b hb hb2;cases xs with
  |nil=>have:=h.len;simp at this
  |cons x xs=>
   have ht:=h.tail.2;have hn:=h.nd;rw[feetQ_cons]at hn;have hd:=(List.nodup_append.1 hn).2.2;cases i with
   |zero=>
    cases j with
    |zero=>exact hij rfl
    |succ j=>
     simp at hv hu;subst hv;exact hd b hb b (mem_feetQ.2 ⟨u,List.mem_of_getElem? hu,hb2⟩) rfl
   |succ i=>
    cases j with
    |zero=>
     simp at hv hu;subst hu;exact hd b hb2 b (mem_feetQ.2 ⟨v,List.mem_of_getElem? hv,hb⟩) rfl
    |succ j=>exact ih ht i j v u (by omega) (by simpa using hv) (by simpa using hu) b hb hb2
theorem QusAt.set {qs:List QI}(h:QusAt W qs xs){i:Nat}{v:QI}{x':QS}(hv:qs[i]?=some v)(k:∀b∈feetQ qs,b∉v.foot→W'.heap[b]?=W.heap[b]?)(hx:QuAt W' v x'):QusAt W' qs (xs.set i x'):=by
 refine⟨by simp[h.len],fun j u y hu hy=>?_,h.nd⟩;by_cases hj:i=j
 ·subst hj;rw[hv]at hu;cases hu;have hi:i<xs.length:=by rw[←h.len];exact(List.getElem?_eq_some_iff.1 hv).1
  rw[List.getElem?_set_self hi]at hy;cases hy;exact hx
 ·rw[List.getElem?_set_ne hj]at hy;exact(h.qu j u y hu hy).keep (fun b hb=>k b (mem_feetQ.2 ⟨u,List.mem_of_getElem? hu,hb⟩) (h.ap j i u v (fun e=>hj e.symm) hu hv b hb))
structure CliQ where
 d:Int
 st:St
 qs:List QS
 told:List UInt8
def CliQ.k (s:CliQ):CliS:=⟨s.d,s.st,s.qs.map (·.c),s.told⟩
structure CliV where
 k:CliI
 qi:List QI
def CliV.foot (v:CliV):List Nat:=v.k.foot++feetQ v.qi
structure CliAt (W:World)(win:Nat)(v:CliV)(s:CliQ):Prop where
 cor:CorAt W win v.k s.k
 qk:v.k.qs=v.qi.map (·.q)
 qu:QusAt W v.qi s.qs
 ok:∀x∈s.qs,QSOk s.d x
theorem CliAt.kind {v:CliV}{s:CliQ}(h:CliAt W win v s):∀b∈v.foot,(∃Z T f,W.heap[b]?=some (.cells Z T f)∧(T=125∨T=134∨T=5∨T=175∨T=216∨T=4∨T=9))∨∃cap buf cl a c tm,W.heap[b]?=some (.chan cap buf cl a c tm):=by
 intro b hb;rcases List.mem_append.1 hb with hb|hb
 ·rcases h.cor.kind b hb with⟨Z,T,f,h1,h2⟩|h1
  ·exact .inl ⟨Z,T,f,h1,by rcases h2 with e|e|e|e<;>simp[e]⟩
  ·exact .inr h1
 ·obtain⟨Z,T,h1,h2⟩:=h.qu.kind b hb;exact .inl ⟨Z,T,_,h1,by rcases h2 with e|e|e<;>simp[e]⟩
theorem CliAt.old {v:CliV}{s:CliQ}(h:CliAt W win v s):∀b∈v.foot,b<W.heap.size:=by
 intro b hb;rcases h.kind b hb with⟨Z,T,f,h1,_⟩|⟨cap,buf,cl,a,c,tm,h1⟩
 ·exact blkLt h1
 ·exact blkLt h1
theorem CliAt.apart {v:CliV}{s:CliQ}(h:CliAt W win v s){T:Nat}{Z:Array Value}{f:Nat×Nat}(hb:W.heap[b]?=some (.cells Z T f))(hT:T≠125∧T≠134∧T≠5∧T≠175∧T≠216∧T≠4∧T≠9):b∉v.foot:=by
 intro hm;rcases h.kind b hm with⟨Z',T',f',h1,h2⟩|⟨cap,buf,cl,a,c,tm,h1⟩
 ·rw[hb]at h1;simp at h1;obtain⟨_,rfl,_⟩:=h1;rcases h2 with e|e|e|e|e|e|e<;>simp[e]at hT
 ·rw[hb]at h1;cases h1
theorem CliAt.keep {v:CliV}{s:CliQ}(h:CliAt W win v s)(k:∀b∈v.foot,W'.heap[b]?=W.heap[b]?):CliAt W' win v s:=
 ⟨h.cor.keep (fun b hb=>k b (List.mem_append.2 (.inl hb))),h.qk,h.qu.keep (fun b hb=>k b (List.mem_append.2 (.inr hb))),h.ok⟩
theorem CliAt.below {v:CliV}{s:CliQ}(h:CliAt W win v s)(hb:Below W.heap.size W W'):CliAt W' win v s:=h.keep (fun b hm=>hb.block b (h.old b hm))
theorem CliAt.ap {v:CliV}{s:CliQ}(h:CliAt W win v s):∀b∈feetQ v.qi,b∉v.k.foot:=fun b hb=>by
 obtain⟨Z,T,h1,h2⟩:=h.qu.kind b hb
 exact h.cor.apart h1 (by rcases h2 with e|e|e<;>(subst e;decide))
theorem CliAt.corTo {v:CliV}{s:CliQ}(h:CliAt W win v s){k':CliI}{told':List UInt8}{st':St}(c:Chg v.k.foot W W')(hc:CorAt W' win k' ⟨s.d,st',s.qs.map (·.c),told'⟩)(hq:k'.qs=v.k.qs)(hl:Later W v.k.foot k'.foot):CliAt W' win ⟨k',v.qi⟩ ⟨s.d,st',s.qs,told'⟩∧Chg v.foot W W'∧Later W v.foot (CliV.foot ⟨k',v.qi⟩):=by
 refine⟨⟨hc,hq.trans h.qk,h.qu.keep (fun b hb=>c.block b (h.qu.old b hb) (h.ap b hb)),h.ok⟩,c.more (fun b hb=>List.mem_append.2 (.inl hb)),fun b hb=>?_⟩;rcases List.mem_append.1 hb with hb|hb
 ·rcases hl b hb with h1|h1
  ·exact .inl (List.mem_append.2 (.inl h1))
  ·exact .inr h1
 ·exact .inl (List.mem_append.2 (.inr hb))
end Go.Proofs.YtlonjggfnleolaaGreatDoor
