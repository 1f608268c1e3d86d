import Derived.Test.YtlonjggfnleolaaGreatDoorGivenA
namespace Go.Proofs.YtlonjggfnleolaaGreatDoor
open Go.RowKit
set_option linter.unusedVariables false
set_option maxHeartbeats 4000000
set_option maxRecDepth 20000
def givenCs (b j:Nat):List Value:=((givenG b).toList.drop (j*18)).take 18
theorem givenCs_len (b:Nat):∀j,j<10→(givenCs b j).length=18:=by
 intro j hj;match j,hj with
 |0,_=>rfl
 |1,_=>rfl
 |2,_=>rfl
 |3,_=>rfl
 |4,_=>rfl
 |5,_=>rfl
 |6,_=>rfl
 |7,_=>rfl
 |8,_=>rfl
 |9,_=>rfl
theorem givenCs_at (b j m:Nat)(v:Value)(h:(givenCs b j)[m]?=some v):(givenG b)[j*18+m]?=some v:=by
 unfold givenCs at h;have hm:m<18:=by
  have:=(List.getElem?_eq_some_iff.1 h).1;simp at this;omega
 rw[List.getElem?_take_of_lt hm,List.getElem?_drop]at h;simpa using h
theorem given_gen (p:Value)(l h:Int)(w:World)(I:Nat→World→Prop)(h0:I 0 ((w.alloc (.cells #[.string ⟨#[97]⟩] 9)).alloc (.cells (givenG w.heap.size) 95)))(hst:∀j,j<10→l≤givenK.getD j 0→givenK.getD j 0≤h→∀W,I j W→Calls Tryz.prog 40 #[p,.agg (givenCs w.heap.size j).toArray] W fun e W'=>e= .returned (.bool true)∧I (j+1) W'∧∀(b:Nat) (Z:Array Value),W.heap[b]?=some (.cells Z 95 (0,0))→W'.heap[b]?=some (.cells Z 95 (0,0)))(hsk:∀j,j<10→¬(l≤givenK.getD j 0∧givenK.getD j 0≤h)→∀W,I j W→I (j+1) W):Calls Tryz.prog 39 #[p,.int .i64 l,.int .i64 h] w fun e w'=>e= .returned (.bool true)∧I 10 w':=by
 have HST:=hide' hst;have HSK:=hide' hsk;have H0:=hide' h0;clear hst hsk h0;go_enter Tryz.func39,Tryz.ntmps39;go_wp2;refine wp_of_run (v:= .slice (some ⟨(w.alloc (.cells #[.string ⟨#[97]⟩] 9)).heap.size,0,none⟩) 10 10) (w':=(w.alloc (.cells #[.string ⟨#[97]⟩] 9)).alloc (.cells (givenG w.heap.size) 95)) (by kernel_rfl) ?_;rw[World.size_alloc];generalize hG:givenG w.heap.size=G at*;have HG:=hide' hG;clear hG;generalize Value.agg #[.int .i64 2,.slice (some ⟨w.heap.size,0,none⟩) 1 1,.string ⟨#[120,121]⟩,.string ⟨#[]⟩,.bool false,.int .i64 0]=z0;generalize Value.agg #[.int .i64 1,.int .i64 0,.int .i64 2,.slice (some ⟨w.heap.size,0,none⟩) 1 1,.string ⟨#[120,121]⟩,.string ⟨#[]⟩,.bool false,.int .i64 0,.int .i64 0,.slice none 0 0,.slice none 0 0,.string ⟨#[]⟩,.int .i64 0,.int .i64 0,.int .i64 0,.string ⟨#[]⟩,.int .i64 1,.int .i64 0]=z1
 generalize Value.agg #[.int .i64 4,.int .i64 0,.int .i64 0,.slice none 0 0,.string ⟨#[]⟩,.string ⟨#[]⟩,.bool false,.int .i64 0,.int .i64 0,.slice none 0 0,.slice none 0 0,.string ⟨#[]⟩,.int .i64 0,.int .i64 0,.int .i64 0,.string ⟨#[]⟩,.int .i64 1,.int .i64 0]=z2;generalize Value.agg #[.int .i64 4,.int .i64 0,.int .i64 0,.slice none 0 0,.string ⟨#[]⟩,.string ⟨#[]⟩,.bool false,.int .i64 0,.int .i64 0,.slice none 0 0,.slice none 0 0,.string ⟨#[]⟩,.int .i64 0,.int .i64 0,.int .i64 0,.string ⟨#[]⟩,.int .i64 2,.int .i64 0]=z3;generalize Value.agg #[.int .i64 4,.int .i64 0,.int .i64 0,.slice none 0 0,.string ⟨#[]⟩,.string ⟨#[]⟩,.bool false,.int .i64 0,.int .i64 0,.slice none 0 0,.slice none 0 0,.string ⟨#[]⟩,.int .i64 0,.int .i64 0,.int .i64 0,.string ⟨#[]⟩,.int .i64 3,.int .i64 0]=z4
 generalize Value.agg #[.int .i64 5,.int .i64 0,.int .i64 0,.slice none 0 0,.string ⟨#[]⟩,.string ⟨#[]⟩,.bool false,.int .i64 0,.int .i64 0,.slice none 0 0,.slice none 0 0,.string ⟨#[]⟩,.int .i64 0,.int .i64 0,.int .i64 0,.string ⟨#[103,101,116,32,97,32,98,10]⟩,.int .i64 0,.int .i64 0]=z5;generalize Value.agg #[.int .i64 8,.int .i64 0,.int .i64 0,.slice none 0 0,.string ⟨#[]⟩,.string ⟨#[]⟩,.bool false,.int .i64 0,.int .i64 0,.slice none 0 0,.slice none 0 0,.string ⟨#[]⟩,.int .i64 3,.int .i64 5,.int .i64 2,.string ⟨#[]⟩,.int .i64 0,.int .i64 0]=z6;generalize Value.agg #[.int .i64 9,.int .i64 0,.int .i64 0,.slice none 0 0,.string ⟨#[]⟩,.string ⟨#[]⟩,.bool false,.int .i64 0,.int .i64 0,.slice none 0 0,.slice none 0 0,.string ⟨#[]⟩,.int .i64 0,.int .i64 0,.int .i64 0,.string ⟨#[]⟩,.int .i64 1,.int .i64 0]=z7
 generalize Value.agg #[.int .i64 9,.int .i64 0,.int .i64 0,.slice none 0 0,.string ⟨#[]⟩,.string ⟨#[]⟩,.bool false,.int .i64 0,.int .i64 0,.slice none 0 0,.slice none 0 0,.string ⟨#[]⟩,.int .i64 0,.int .i64 0,.int .i64 0,.string ⟨#[]⟩,.int .i64 2,.int .i64 0]=z8;generalize Value.agg #[.int .i64 9,.int .i64 0,.int .i64 0,.slice none 0 0,.string ⟨#[]⟩,.string ⟨#[]⟩,.bool false,.int .i64 0,.int .i64 0,.slice none 0 0,.slice none 0 0,.string ⟨#[]⟩,.int .i64 0,.int .i64 0,.int .i64 0,.string ⟨#[]⟩,.int .i64 3,.int .i64 0]=z9;generalize Value.agg #[.int .i64 10,.int .i64 0,.int .i64 0,.slice none 0 0,.string ⟨#[]⟩,.string ⟨#[]⟩,.bool false,.int .i64 0,.int .i64 0,.slice none 0 0,.slice none 0 0,.string ⟨#[]⟩,.int .i64 0,.int .i64 0,.int .i64 0,.string ⟨#[103,101,116,32,97,10,115,101,116,32,98,32,49,10,120,10]⟩,.int .i64 0,.int .i64 0]=z10
 generalize Value.agg #[.int .i64 3,.int .i64 5,.int .i64 2]=z11;go_wp2;have HN:Hid (((w.alloc (.cells #[.string ⟨#[97]⟩] 9)).alloc (.cells G 95)).heap[w.heap.size+1]?=some (.cells G 95 (0,0))):=by
  have h1:=blkNew (w.alloc (.cells #[.string ⟨#[97]⟩] 9)) (.cells G 95);rw[World.size_alloc]at h1;exact h1
 go_loopw [8,9] (fun i k wr=>∃j:Nat,j≤10∧i= .int .i64 j∧Hid (I j wr)∧Hid (wr.heap[w.heap.size+1]?=some (.cells G 95 (0,0)))) (fun i _ _=>10-(intOf i).toNat)
 case atStart=>exact⟨0,Nat.zero_le _,rfl,H0,HN⟩
 case round=>
  obtain⟨j,hj,rfl,HJ,HB⟩:=hrel;have hsz:w.heap.size+1<wr.heap.size:=blkLt HB.out;by_cases hlt:j<10
  ·have ck:wr.cell? ⟨w.heap.size+1,j*18,none⟩=some (.int .i64 (givenK.getD j 0)):=by
    rw[blkCell HB.out,←HG.out,Nat.mul_comm];exact givenG_k _ j hlt
   have ck':wr.cell? ⟨w.heap.size+1,18*j,none⟩=some (.int .i64 (givenK.getD j 0)):=by
    rw[Nat.mul_comm];exact ck
   have HO:=hide' (HST.out j hlt);have HK:=hide' (HSK.out j hlt);have HR:Hid (wr.rangeAt (w.heap.size+1) (j*18) (givenCs w.heap.size j)):=fun m v hv=>by
    rw[blkCell HB.out,←HG.out];exact givenCs_at _ j m v hv
   have HI:Hid ((Tryz.prog.info? 95).map (·.size)=some (givenCs w.heap.size j).length):=by rw[givenCs_len _ j hlt];exact(show(Tryz.prog.info? 95).map (·.size)=some 18 by kernel_rfl)
   generalize givenCs w.heap.size j=cs at*;generalize givenK.getD j 0=K at*;by_cases hk1:l≤K
   ·by_cases hk2:K≤h
    ·have HP:=hide' (HO.out hk1 hk2 wr HJ.out);clear HO HK;go_wp2_with (show wpList _ _ _ ({dst:=_,op:=Op.load 95 _,type:=_,pos:=_,after:=_,guard:=_}::_) _ _;refine wpList_load_mid rfl 95 _ rfl (w.heap.size+1) (j*18) rfl cs _ HR.out Tryz.underlying95 rfl HI.out ?_)
     go_at_call 40;refine HP.out.mono ?_;rintro e w1 ⟨rfl,hi1,hb1⟩;have H1:=hide' hi1;have HB1:=hide' (hb1 _ _ HB.out);clear hb1 hi1 HP;go_wp2_with fail
     exact⟨⟨j+1,by omega,by go_num,H1,HB1⟩,by simp[intOf];omega⟩
    ·have H1:=hide' (HK.out (fun hh=>hk2 hh.2) wr HJ.out);clear HO HK;go_wp2_with fail
     exact⟨⟨j+1,by omega,by go_num,H1,HB⟩,by simp[intOf];omega⟩
   ·have H1:=hide' (HK.out (fun hh=>hk1 hh.1) wr HJ.out);clear HO HK;go_wp2_with fail
    exact⟨⟨j+1,by omega,by go_num,H1,HB⟩,by simp[intOf];omega⟩
  ·have hj2:j=10:=by omega
   subst hj2;go_wp2;go_ret;exact⟨rfl,HJ.out⟩
theorem plays_gen (b o N c:Nat)(l h n:Int)(w:World)(kf:Nat→Int)(csf:Nat→List Value)(I:Nat→World→Prop)(J:World→Prop)(hlt:b<w.heap.size)(hN:N≤c)(hN2:N≤140737488355328)(hcs:∀j,j<N→(csf j).length=18∧w.cell? ⟨b,o+j*18,none⟩=some (.int .i64 (kf j))∧w.rangeAt b (o+j*18) (csf j))(hgv:Calls Tryz.prog 39 #[.pointer (some ⟨w.heap.size,0,none⟩),.int .i64 l,.int .i64 h] (w.alloc (.cells #[.slice none 0 0,.slice none 0 0,.slice none 0 0,.slice none 0 0,.slice none 0 0,.slice none 0 0,.int .i64 0] 87)) fun e w'=>e= .returned (.bool true)∧I 0 w')(hB:∀j W,I j W→Below w.heap.size w W)(hst:∀j,j<N→l≤kf j→kf j≤h→¬kf j=n→∀W,I j W→Calls Tryz.prog 40 #[.pointer (some ⟨w.heap.size,0,none⟩),.agg (csf j).toArray] W fun e W'=>e= .returned (.bool true)∧I (j+1) W')(hsk:∀j,j<N→¬(l≤kf j∧kf j≤h∧¬kf j=n)→∀W,I j W→I (j+1) W)(hen:∀W,I N W→Calls Tryz.prog 41 #[.pointer (some ⟨w.heap.size,0,none⟩),.int .i64 l,.int .i64 h] W fun e W'=>e= .returned (.bool true)∧J W')(hlk:∀W,J W→Calls Tryz.prog 42 #[.pointer (some ⟨w.heap.size,0,none⟩)] W fun e W'=>e= .returned (.bool true)∧Below w.heap.size w W'):Calls Tryz.prog 15 #[.slice (some ⟨b,o,none⟩) N c,.int .i64 l,.int .i64 h,.int .i64 n] w fun e w'=>e= .returned (.bool true)∧Below w.heap.size w w':=by
 have HCS:=hide' hcs;have HG:=hide' hgv;have HB:=hide' hB;have HST:=hide' hst;have HSK:=hide' hsk;have HEN:=hide' hen;have HLK:=hide' hlk;clear hcs hgv hB hst hsk hen hlk;go_enter Tryz.func15,Tryz.ntmps15;go_wp2_with fail
 go_at_call 39;refine HG.out.mono ?_;rintro e w1 ⟨rfl,hi1⟩;have H1:=hide' hi1;clear hi1 HG;go_wp2;go_loopw [10,11] (fun k i wr=>∃j:Nat,j≤N∧i= .int .i64 j∧Hid (I j wr)) (fun _ i _=>N-(intOf i).toNat)
 case atStart=>exact⟨0,Nat.zero_le _,rfl,H1⟩
 case round=>
  obtain⟨j,hj,rfl,HJ⟩:=hrel;have HBW:=hide' (HB.out j wr HJ.out);have hsz:w.heap.size≤wr.heap.size:=HBW.out.size;have hbr:b<wr.heap.size:=by omega
  by_cases hltj:j<N
  ·obtain⟨hcl,e0,hr⟩:=HCS.out j hltj;have HO:=hide' (HST.out j hltj);have HK:=hide' (HSK.out j hltj);have HR:Hid (wr.rangeAt b (o+j*18) (csf j)):=fun m v hv=>(HBW.out.cell (p:=⟨b,o+j*18+m,none⟩) hlt).trans (hr m v hv)
   have HI:Hid ((Tryz.prog.info? 95).map (·.size)=some (csf j).length):=by rw[hcl];exact(show(Tryz.prog.info? 95).map (·.size)=some 18 by kernel_rfl)
   rw[←HBW.out.cell (p:=⟨b,o+j*18,none⟩) hlt]at e0;clear hr hcl;generalize csf j=cs at*;generalize kf j=k at*;by_cases hk1:l≤k
   ·by_cases hk3:k≤h
    ·by_cases hkn:k=n
     ·have H2:=hide' (HK.out (fun hh=>hh.2.2 hkn) wr HJ.out);clear HO HK;go_wp2;go_roundw;case rel=>exact⟨j+1,by omega,by go_num,H2⟩
      case measure=>simp[intOf];omega
     ·have HP:=hide' (HO.out hk1 hk3 hkn wr HJ.out);clear HO HK;go_wp2_with (show wpList _ _ _ ({dst:=_,op:=Op.load 95 _,type:=_,pos:=_,after:=_,guard:=_}::_) _ _;refine wpList_load_mid rfl 95 _ rfl b (o+j*18) rfl cs _ HR.out Tryz.underlying95 rfl HI.out ?_)
      go_at_call 40;refine HP.out.mono ?_;rintro e w2 ⟨rfl,hi2⟩;have H2:=hide' hi2;clear hi2 HP;go_wp2;go_roundw;case rel=>exact⟨j+1,by omega,by go_num,H2⟩
      case measure=>simp[intOf];omega
    ·have H2:=hide' (HK.out (fun hh=>hk3 hh.2.1) wr HJ.out);clear HO HK;go_wp2;go_roundw;case rel=>exact⟨j+1,by omega,by go_num,H2⟩
     case measure=>simp[intOf];omega
   ·have H2:=hide' (HK.out (fun hh=>hk1 hh.1) wr HJ.out);clear HO HK;go_wp2;go_roundw;case rel=>exact⟨j+1,by omega,by go_num,H2⟩
    case measure=>simp[intOf];omega
  ·have hj2:j=N:=by omega
   subst hj2;have HP:=hide' (HEN.out wr HJ.out);go_wp2_with fail
   go_at_call 41;refine HP.out.mono ?_;rintro e w2 ⟨rfl,hw2⟩;have HQ:=hide' (HLK.out w2 hw2);clear hw2;go_wp2_with fail
   go_at_call 42;refine HQ.out.mono ?_;rintro e w3 ⟨rfl,hw3⟩;have HF:=hide' hw3;clear hw3;go_wp2;go_ret;exact⟨rfl,HF.out⟩
theorem plays_gen_nil (l h n:Int)(w:World)(I:World→Prop)(J:World→Prop)(hgv:Calls Tryz.prog 39 #[.pointer (some ⟨w.heap.size,0,none⟩),.int .i64 l,.int .i64 h] (w.alloc (.cells #[.slice none 0 0,.slice none 0 0,.slice none 0 0,.slice none 0 0,.slice none 0 0,.slice none 0 0,.int .i64 0] 87)) fun e w'=>e= .returned (.bool true)∧I w')(hen:∀W,I W→Calls Tryz.prog 41 #[.pointer (some ⟨w.heap.size,0,none⟩),.int .i64 l,.int .i64 h] W fun e W'=>e= .returned (.bool true)∧J W')(hlk:∀W,J W→Calls Tryz.prog 42 #[.pointer (some ⟨w.heap.size,0,none⟩)] W fun e W'=>e= .returned (.bool true)∧Below w.heap.size w W'):Calls Tryz.prog 15 #[.slice none 0 0,.int .i64 l,.int .i64 h,.int .i64 n] w fun e w'=>e= .returned (.bool true)∧Below w.heap.size w w':=by
 have HG:=hide' hgv;have HEN:=hide' hen;have HLK:=hide' hlk;clear hgv hen hlk;go_enter Tryz.func15,Tryz.ntmps15;go_wp2_with fail
 go_at_call 39;refine HG.out.mono ?_;rintro e w1 ⟨rfl,hi1⟩;have H1:=hide' hi1;clear hi1 HG;go_wp2;go_loopw [10,11] (fun k i wr=>∃j:Nat,j≤0∧i= .int .i64 j∧Hid (I wr)) (fun _ i _=>0-(intOf i).toNat)
 case atStart=>exact⟨0,Nat.zero_le _,rfl,H1⟩
 case round=>
  obtain⟨j,hj,rfl,HJ⟩:=hrel;have hj2:j=0:=by omega
  subst hj2;have HP:=hide' (HEN.out wr HJ.out);go_wp2_with fail
  go_at_call 41;refine HP.out.mono ?_;rintro e w2 ⟨rfl,hw2⟩;have HQ:=hide' (HLK.out w2 hw2);clear hw2;go_wp2_with fail
  go_at_call 42;refine HQ.out.mono ?_;rintro e w3 ⟨rfl,hw3⟩;have HF:=hide' hw3;clear hw3;go_wp2;go_ret;exact⟨rfl,HF.out⟩
end Go.Proofs.YtlonjggfnleolaaGreatDoor
