import Derived.Test.YtlonjggfnleolaaGreatDoorTextsG
import Derived.Shelf.Strings.Search1
import Derived.Shelf.Strings.Search2
import Derived.Shelf.Strings.Search3
import Derived.Shelf.Strings.Count
import Derived.Shelf.Strings.Split
import Derived.Shelf.Bytes.SlIndexAt
import Derived.Shelf.Bytes.IndexByte
import Derived.Lib.IndexBytes
namespace Go.Proofs.YtlonjggfnleolaaGreatDoor
open Go.RowKit
set_option linter.unusedVariables false
set_option maxHeartbeats 4000000
set_option maxRecDepth 20000
theorem passing_any (word:ByteArray)(used:Int)(w:World):Calls Tryz.prog 217 #[stepV 4 (.slice none 0 0) ⟨#[]⟩ word false 0 used false] w fun e w'=>e= .returned (stepV 4 (.slice none 0 0) ⟨#[]⟩ word false 0 used true)∧Below w.heap.size w w':=by
 unfold stepV;go_enter Tryz.func217,Tryz.ntmps217;go_wp2;refine bodyPost_ret (v:= .agg #[.int .i64 4,.slice none 0 0,.string ⟨#[]⟩,.string word,.bool false,.int .i64 0,.int .i64 used,.bool true]) (by simp[results,Tryz.results217,go_sem]) rfl ⟨rfl,?_⟩;exact((Below.refl _ _).alloc (Nat.le_refl _) _).alloc (by simp) _
theorem readSet_any (g o n c:Nat)(bs:List UInt8)(w:World)(frm size:Nat)(key:ByteArray)(hB:BytesIn w g o n c bs)(hf:frm≤n)(hs:size≤999)(h1:1≤frm):Calls Tryz.prog 223 #[.slice (some ⟨g,o,none⟩) n c,.int .i64 (frm:Int),.string key,.int .i64 (size:Int)] w fun e w'=>StepOut w w' (setR bs frm key size) e∧Below w.heap.size w w':=by
 have hl:=hB.len;have hsm:=hB.small;have hcap:=hB.cap;have hlt:=hB.lt;unfold setR;by_cases h40:40<size
 ·rw[if_pos h40];have h40':(40:Int)<(size:Int):=by omega
  clear hB hl;go_enter Tryz.func223,Tryz.ntmps223;go_wp2_with fail
  go_at_call 218;refine(wrong_any _ _ _).mono ?_;rintro e w2 ⟨rfl,hb2⟩;have hR:w2.heap[w.heap.size]?=_:=(hb2.block _ (by simp)).trans (blkNew w _);have H2:=hide' (((Below.refl w.heap.size w).alloc (Nat.le_refl _) _).trans (hb2.mono (by simp)));obtain⟨⟨r0,r1,r2,r3,r4,r5,r6,r7⟩,rf⟩:=zcells_of hR;have hz:=blkLt hR;clear hb2 hR;unfold stepV;go_wp2;refine bodyPost_ret (v:=stepV 4 (.slice none 0 0) ⟨#[]⟩ bigB false 0 frm false) (by simp[results,Tryz.results223,go_sem,stepV,bigB,r0,r1,r2,r3,r4,r5,r6,r7]) rfl ⟨⟨_,rfl,.inl ⟨rfl,rfl⟩⟩,?_⟩;exact set8 H2.out (Nat.le_refl _) _ _ _ _ _ _ _ _
 rw[if_neg h40];have h40':¬(40:Int)<(size:Int):=by omega
 by_cases hle:bs.length≤frm+size
 ·rw[if_pos hle];have hle':(n:Int)≤(frm:Int)+(size:Int):=by omega
  clear hB hl;go_enter Tryz.func223,Tryz.ntmps223;go_wp2;refine bodyPost_ret (v:=zStepV) (by simp[results,Tryz.results223,go_sem,zStepV]) rfl ⟨rfl,?_⟩;exact(Below.refl _ _).alloc (Nat.le_refl _) _
 rw[if_neg hle];have hle':¬(n:Int)≤(frm:Int)+(size:Int):=by omega
 have hidx:frm+size<n:=by omega
 have ce:=hB.by_ (frm+size) hidx;have hidx':(frm:Int)+(size:Int)<(n:Int):=by omega
 have hby:byAt bs (frm+size)=(bs.getD (frm+size) 0).toNat:=rfl;rw[hby]at ce;have hb256:(bs.getD (frm+size) 0).toNat<256:=UInt8.toNat_lt _;obtain⟨en,hen⟩:∃en:Nat,en=frm+size:=⟨_,rfl⟩
 have z1:(frm:Int)+(size:Int)=(en:Int):=by omega
 have HB:=hide' hB;have HV:=hide' (show∀W,Below w.heap.size w W→∀cc,(convert 80 9 (.slice (some ⟨g,o+frm,none⟩) (en-frm) cc)).run Tryz.prog W= .ok (.string (bytesOf bs frm size)) W from fun W hW cc=>by rw[show en-frm=size by omega];exact conv_by W g o n c frm size cc bs (hB.later hW) (by omega));rw[←hen]at ce hidx⊢;clear hB hl hby hle hle' hidx';have hle2:¬(n:Int)≤(en:Int):=by omega
 have hidx2:(en:Int)<(n:Int):=by omega
 have hfe:frm≤en:=by omega
 have hfe':(frm:Int)≤(en:Int):=by omega
 have hec:en≤c:=by omega
 have ncf:¬c=frm:=by omega
 have hlt1:g<w.heap.size+1:=by omega
 have hlt2:g<w.heap.size+1+1:=by omega
 clear hen;generalize bs.getD en 0=b at*;generalize bytesOf bs frm size=val at*;by_cases hb:b=10
 ·subst hb;rw[if_neg (by simp)];have e10:((10:UInt8).toNat:Int)=10:=rfl;rw[e10]at ce;clear e10 hb256;have hcv:=HV.out ((w.alloc (.cells #[.int .i64 0,.slice none 0 0,.string ⟨#[]⟩,.string ⟨#[]⟩,.bool false,.int .i64 0,.int .i64 0,.bool false] 255)).alloc (.cells #[.string key] 9)) (((Below.refl _ _).alloc (Nat.le_refl _) _).alloc (by simp) _) (c-frm);go_enter Tryz.func223,Tryz.ntmps223;go_wp2;refine bodyPost_ret (v:=stepV 2 (.slice (some ⟨w.heap.size+1,0,none⟩) 1 1) val ⟨#[]⟩ false 0 (en+1:Nat) false) (by simp[results,Tryz.results223,go_sem,stepV]) rfl ⟨⟨_,rfl,.inr ⟨w.heap.size+1,1,rfl,by omega,texts1 ?_⟩⟩,?_⟩
  ·repeat(first|with_reducible refine hs_set ?_ (by simp;try omega)|with_reducible refine hs_drewN ?_ _|with_reducible refine hs_drew ?_|with_reducible exact hs_new (by simp)|with_reducible refine hs_alloc ?_ _)
  ·repeat(first|with_reducible exact Below.refl _ _|with_reducible refine Below.drew ?_|with_reducible refine below_drewN ?_ _|with_reducible refine Below.alloc ?_ (by simp;try omega) _|with_reducible refine Below.setCell ?_ (by simp;try omega) _)
 ·rw[if_pos hb];have hb':((b.toNat:Int)==10)=false:=by
   rw[beq_eq_false_iff_ne];intro h;apply hb;apply UInt8.toNat_inj.1;show b.toNat=10;omega
  have hb2':((b.toNat:Int) != 10)=true:=by simp only[bne,hb',Bool.not_false]
  go_enter Tryz.func223,Tryz.ntmps223;go_wp2_with fail
  go_at_call 218;refine(wrong_any _ _ _).mono ?_;rintro e w2 ⟨rfl,hb2⟩;have hR:w2.heap[w.heap.size]?=_:=(hb2.block _ (by simp)).trans (blkNew w _);have H2:=hide' (((Below.refl w.heap.size w).alloc (Nat.le_refl _) _).trans (hb2.mono (by simp)));have HR:=hide' hR;have HP:=hide' (passing_any ⟨#[100,97,116,97]⟩ en w2);have hz:=blkLt hR;clear hb2 hR;unfold stepV at*;go_wp2_with fail
  go_at_call 217;refine HP.out.mono ?_;rintro e w3 ⟨rfl,hb3⟩;have hR3:=(hb3.block _ hz).trans HR.out;have H3:=hide' (H2.out.trans (hb3.mono (by omega)));obtain⟨⟨r0,r1,r2,r3,r4,r5,r6,r7⟩,rf⟩:=zcells_of hR3;have hz3:=blkLt hR3;clear hb3 hR3 HP HR H2;go_wp2;refine bodyPost_ret (v:=stepV 4 (.slice none 0 0) ⟨#[]⟩ dataB false 0 en true) (by simp[results,Tryz.results223,go_sem,stepV,dataB,r0,r1,r2,r3,r4,r5,r6,r7]) rfl ⟨⟨_,rfl,.inl ⟨rfl,rfl⟩⟩,?_⟩;exact set8 H3.out (Nat.le_refl _) _ _ _ _ _ _ _ _
end Go.Proofs.YtlonjggfnleolaaGreatDoor
namespace Go.Proofs
open Go.Shelf
def Tryz.lays146_ren:Go.Shelf.Ren:=⟨fun|146=>221|221=>226|268=>229|138=>230|143=>231|195=>232|197=>233|218=>234|219=>235|260=>236|217=>237|225=>238|224=>239|267=>240|266=>241|314=>242|n=>n,fun|9=>9|31=>34|3=>3|4=>4|0=>0|105=>314|21=>21|5=>5|46=>79|119=>317|139=>320|138=>319|146=>321|51=>166|n=>n,fun|1=>0|3=>4|4=>5|n=>n⟩
theorem Tryz.lays146:Go.Proofs.Lays.n146 Tryz.prog Tryz.lays146_ren:={
 mixed:=by kernel_rfl
 f138:=Tryz.func230.trans (congrArg some (by kernel_rfl))
 f143:=Tryz.func231.trans (congrArg some (by kernel_rfl))
 f146:=Tryz.func221.trans (congrArg some (by kernel_rfl))
 f195:=Tryz.func232.trans (congrArg some (by kernel_rfl))
 f197:=Tryz.func233.trans (congrArg some (by kernel_rfl))
 f217:=Tryz.func237.trans (congrArg some (by kernel_rfl))
 f218:=Tryz.func234.trans (congrArg some (by kernel_rfl))
 f219:=Tryz.func235.trans (congrArg some (by kernel_rfl))
 f221:=Tryz.func226.trans (congrArg some (by kernel_rfl))
 f224:=Tryz.func239.trans (congrArg some (by kernel_rfl))
 f225:=Tryz.func238.trans (congrArg some (by kernel_rfl))
 f260:=Tryz.func236.trans (congrArg some (by kernel_rfl))
 f266:=Tryz.func241.trans (congrArg some (by kernel_rfl))
 f267:=Tryz.func240.trans (congrArg some (by kernel_rfl))
 f268:=Tryz.func229.trans (congrArg some (by kernel_rfl))
 f314:=Tryz.func242.trans (congrArg some (by kernel_rfl))
 t0:=Tryz.underlying0
 a0:=Tryz.isAgg0
 z0:=Tryz.sizeOf0
 v0:=Tryz.zeroValue0
 t3:=Tryz.underlying3
 a3:=Tryz.isAgg3
 z3:=Tryz.sizeOf3
 v3:=Tryz.zeroValue3
 t4:=Tryz.underlying4
 a4:=Tryz.isAgg4
 z4:=Tryz.sizeOf4
 v4:=Tryz.zeroValue4
 t5:=Tryz.underlying5
 a5:=Tryz.isAgg5
 z5:=Tryz.sizeOf5
 v5:=Tryz.zeroValue5
 t9:=Tryz.underlying9
 a9:=Tryz.isAgg9
 z9:=Tryz.sizeOf9
 v9:=Tryz.zeroValue9
 t21:=Tryz.underlying21
 a21:=Tryz.isAgg21
 z21:=Tryz.sizeOf21
 v21:=Tryz.zeroValue21
 t31:=Tryz.underlying34
 a31:=Tryz.isAgg34
 z31:=Tryz.sizeOf34
 v31:=Tryz.zeroValue34
 t46:=Tryz.underlying79
 a46:=Tryz.isAgg79
 z46:=Tryz.sizeOf79
 v46:=Tryz.zeroValue79
 t51:=Tryz.underlying166
 a51:=Tryz.isAgg166
 z51:=Tryz.sizeOf166
 v51:=Tryz.zeroValue166
 t105:=Tryz.underlying314
 a105:=Tryz.isAgg314
 z105:=Tryz.sizeOf314
 v105:=Tryz.zeroValue314
 t119:=Tryz.underlying317
 a119:=Tryz.isAgg317
 z119:=Tryz.sizeOf317
 t138:=Tryz.underlying319
 a138:=Tryz.isAgg319
 z138:=Tryz.sizeOf319
 v138:=Tryz.zeroValue319
 t139:=Tryz.underlying320
 a139:=Tryz.isAgg320
 z139:=Tryz.sizeOf320
 v139:=Tryz.zeroValue320
 t146:=Tryz.underlying321
 a146:=Tryz.isAgg321
 z146:=Tryz.sizeOf321
 v146:=Tryz.zeroValue321
 g1:=by kernel_rfl
 g3:=by kernel_rfl
 g4:=by kernel_rfl}
def Tryz.lays187_ren:Go.Shelf.Ren:=⟨fun|187=>124|255=>158|n=>n,fun|37=>80|5=>5|3=>3|n=>n,fun|n=>n⟩
theorem Tryz.lays187:Go.Proofs.Lays.n187 Tryz.prog Tryz.lays187_ren:={
 mixed:=by kernel_rfl
 f187:=Tryz.func124.trans (congrArg some (by kernel_rfl))
 f255:=Tryz.func158.trans (congrArg some (by kernel_rfl))
 t3:=Tryz.underlying3
 a3:=Tryz.isAgg3
 z3:=Tryz.sizeOf3
 v3:=Tryz.zeroValue3
 t5:=Tryz.underlying5
 a5:=Tryz.isAgg5
 z5:=Tryz.sizeOf5
 v5:=Tryz.zeroValue5
 t37:=Tryz.underlying80
 a37:=Tryz.isAgg80
 z37:=Tryz.sizeOf80
 v37:=Tryz.zeroValue80}
open Go.RowKit Go.Lib in
theorem Tryz.bytes_IndexByte_at (a:Addr)(n c:Nat)(xs:List Int)(cv:Int)(w:World)(hx:xs.length=n)(hc:∀i,i<n→w.cell? (a.add i)=some (.int .u8 (xs.getD i 0))):
 Calls Tryz.prog 124 #[.slice (some a) n c,.int .u8 cv] w fun e w'=>e= .returned (.int .i64 (Lib.indexByte (Lib.bytesOf xs) cv.toNat.toUInt8))∧w'=w:=Any.bytes_IndexByte_at Tryz.lays187 a n c xs cv w hx hc
theorem Tryz.bytes_IndexByte_nil (cv:Int)(w:World):
 Calls Tryz.prog 124 #[.slice none 0 0,.int .u8 cv] w fun e w'=>e= .returned (.int .i64 (-1))∧w'=w:=Any.bytes_IndexByte_nil Tryz.lays187 cv w
end Go.Proofs
namespace Go.Proofs.YtlonjggfnleolaaGreatDoor
open Go.RowKit
set_option linter.unusedVariables false
set_option maxHeartbeats 1000000
theorem splitK_L:∀(l:List UInt8),Lib.splitK [32] 0 (l.count 32) l=splitL l:=by
 intro l;induction l with
 |nil=>rfl
 |cons b l ih=>
  by_cases hb:b=32
  ·subst hb;rw[List.count_cons_self,Lib.splitK,Lib.index_one,splitL,if_pos rfl,←ih];have e:Lib.indexByte (32::l) 32=0:=rfl;rw[e];rfl
  ·rw[List.count_cons_of_ne hb,splitL,if_neg hb,←ih];cases hc:l.count 32 with
   |zero=>rfl
   |succ k=>
    rw[Lib.splitK,Lib.splitK,Lib.index_one,Lib.index_one];have hm:32∈l:=List.count_pos_iff.1 (by omega);have hge:0≤Lib.indexByte l 32:=by
     clear ih hc;induction l with
     |nil=>cases hm
     |cons d l ih2=>
      unfold Lib.indexByte;by_cases hd:(d==32)=true
      ·rw[if_pos hd];omega
      ·have:32∈l:=by
        rcases List.mem_cons.1 hm with h|h
        ·exact absurd (by simp[h]) hd
        ·exact h
       have:=ih2 this;have h1:(Lib.indexByte l 32== -1)=false:=by rw[beq_eq_false_iff_ne];omega
       simp only[hd,h1,Bool.false_eq_true,if_false]
       omega
    have hb':(b==32)=false:=by simpa using hb
    have h1:(Lib.indexByte l 32== -1)=false:=by rw[beq_eq_false_iff_ne];omega
    have e:Lib.indexByte (b::l) 32=Lib.indexByte l 32+1:=by
     conv=>lhs;unfold Lib.indexByte
     simp only[hb',h1,Bool.false_eq_true,if_false]
    have h2:(Lib.indexByte l 32+1== -1)=false:=by rw[beq_eq_false_iff_ne];omega
    rw[e,h2,h1];simp only[Bool.false_eq_true,if_false]
    have e2:(Lib.indexByte l 32+1).toNat=(Lib.indexByte l 32).toNat+1:=by omega
    rw[e2];simp only[Nat.add_zero,List.take_succ_cons,List.length_cons,List.length_nil,Nat.zero_add,List.drop_succ_cons]
theorem splitB_words (s:ByteArray):Lib.splitB ⟨#[32]⟩ 0 (Lib.countB s ⟨#[32]⟩) s=wordsOf s.data.toList:=by
 have h1:=Lib.splitB_data ⟨#[32]⟩ 0 (Lib.countB s ⟨#[32]⟩) s;have h2:Lib.countB s ⟨#[32]⟩=s.data.toList.count 32:=Lib.count_one 32 s.data.toList;have h3:Lib.splitK [32] 0 (Lib.countB s ⟨#[32]⟩) s.data.toList=splitL s.data.toList:=by rw[h2];exact splitK_L _
 have h4:(Lib.splitB ⟨#[32]⟩ 0 (Lib.countB s ⟨#[32]⟩) s).map (·.data.toList)=splitL s.data.toList:=h1.trans h3;unfold wordsOf;rw[←h4,List.map_map];conv=>lhs;rw[←List.map_id (Lib.splitB _ _ _ _)]
 apply List.map_congr_left;intro x _;simp[mkB]
theorem hi9:(Tryz.prog.info? (Tryz.lays146_ren.t 9)).map (fun i=>(i.zero,i.size,i.bytes))=some (some (.string ByteArray.empty),1,16):=by kernel_rfl
theorem split_any (s:ByteArray)(w:World)(hs:s.size<4294967281):Calls Tryz.prog 221 #[.string s,.string ⟨#[32]⟩] w fun e w'=>e= .returned (.slice (some ⟨w.heap.size,0,none⟩) (wordsOf s.data.toList).length (wordsOf s.data.toList).length)∧w'=w.alloc (.cells ((wordsOf s.data.toList).map Value.string).toArray 9):=by
 have hle:=Lib.countB_le ⟨#[32]⟩ (by decide) s.size s (Nat.le_refl _);have hlen:=Lib.splitB_all ⟨#[32]⟩ (by decide) 0 _ s rfl;have c:=Any.strings_genSplit_core {Tryz.lays146 with} hi9 s ⟨#[32]⟩ 0 (-1) (Lib.countB s ⟨#[32]⟩+1) w hs (by decide) (by decide)
  (fun x c hx=>by
   have:=Any.strings_Index_one {Tryz.lays146 with} x 32 (w.alloc (.cells c (Tryz.lays146_ren.t 9)));have e:Lib.indexByte x.data.toList 32=Lib.indexB x ⟨#[32]⟩:=(Lib.index_one x.data.toList 32).symm;rw[e]at this;exact this)
  (by
   have:=Any.strings_Count_one {Tryz.lays146 with} s 32 w;have e:Lib.countByte s.data.toList 32=Lib.countB s ⟨#[32]⟩:=(Lib.count_one 32 s.data.toList).symm;rw[e]at this;exact this)
  (by decide) (by decide) (by rw[if_pos (by decide)];omega)
 rw[Nat.add_sub_cancel,hlen]at c;have e2:Lib.cellsOf (Lib.splitB ⟨#[32]⟩ 0 (Lib.countB s ⟨#[32]⟩) s) (Lib.countB s ⟨#[32]⟩+1)=((Lib.splitB ⟨#[32]⟩ 0 (Lib.countB s ⟨#[32]⟩) s).map Value.string).toArray:=by rw[←hlen];exact Lib.cellsOf_full _
 rw[e2,←hlen,splitB_words]at c;have HC:=hide' (show Calls Tryz.prog 226 #[.string s,.string ⟨#[32]⟩,.int .i64 0,.int .i64 (-1)] w fun e w'=>e= .returned (.slice (some ⟨w.heap.size,0,none⟩) (wordsOf s.data.toList).length (wordsOf s.data.toList).length)∧w'=w.alloc (.cells ((wordsOf s.data.toList).map Value.string).toArray 9)from c);clear c hle hlen e2;generalize (wordsOf s.data.toList).length=L at*;go_enter Tryz.func221,Tryz.ntmps221;go_wp2_with (go_at_call 226;refine HC.out.mono ?_;rintro e w' ⟨rfl,rfl⟩)
 go_ret;exact⟨rfl,rfl⟩
set_option maxHeartbeats 4000000
set_option maxRecDepth 20000
theorem splitL_ne (l:List UInt8):splitL l≠[]:=by
 induction l with
 |nil=>simp[splitL]
 |cons b l ih=>
  rw[splitL];split
  ·simp
  ·split<;>simp
theorem splitL_len (l:List UInt8):(splitL l).length≤l.length+1:=by
 induction l with
 |nil=>simp[splitL]
 |cons b l ih=>
  rw[splitL];split
  ·simp;omega
  ·split
   ·rename_i h t e;rw[e]at ih;simp at ih⊢;omega
   ·simp
theorem splitL_sizes (l:List UInt8):∀x∈splitL l,x.length≤l.length:=by
 induction l with
 |nil=>simp[splitL]
 |cons b l ih=>
  intro x hx;rw[splitL]at hx;split at hx
  ·rcases List.mem_cons.1 hx with h|h
   ·rw[h];simp
   ·have:=ih x h;simp;omega
  ·split at hx
   ·rename_i h t e;rw[e]at ih;rcases List.mem_cons.1 hx with h'|h'
    ·rw[h'];have:=ih h (by simp);simp;omega
    ·have:=ih x (by simp[h']);simp;omega
   ·simp at hx;rw[hx];simp
theorem countS_le {s:ByteArray}{k:Nat}(h:countS s=some k):k≤999:=by
 unfold countS at h;split at h
 ·cases h
 ·rename_i h3;split at h
  ·rename_i ha;cases h;have:=digsTo_lt _ ha;have hl:s.data.toList.length≤3:=by simp;omega
   have h10:10 ^ s.data.toList.length≤10 ^ 3:=Nat.pow_le_pow_right (by decide) hl;omega
  ·cases h
theorem KeysIn.form' {w:World}{lo:Nat}{v:Value}{ss:List ByteArray}(h:KeysIn w lo v ss):∃a n c,v= .slice a n c:=by
 rcases h with⟨h,_⟩|⟨b,c,h,_⟩
 ·exact⟨_,_,_,h⟩
 ·exact⟨_,_,_,h⟩
structure LineC (w W:World)(C:Nat)(k:Int)(kv:Value)(ks:List ByteArray):Prop where
 hC:W.heap[C]?=some (.cells #[.int .i64 k,kv,.string ⟨#[]⟩,.string ⟨#[]⟩,.bool false,.int .i64 0] 36 (0,0))
 hR:W.heap[w.heap.size]?=some (.cells #[.int .i64 0,.slice none 0 0,.string ⟨#[]⟩,.string ⟨#[]⟩,.bool false,.int .i64 0,.int .i64 0,.bool false] 255 (0,0))
 lC:w.heap.size<C
 key:(kv= .slice none 0 0∧ks=[])∨∃b c,kv= .slice (some ⟨b,0,none⟩) ks.length c∧w.heap.size<b∧TextsAt W b c ks
 bel:Below w.heap.size w W
theorem bytes0 (bs:List UInt8)(e:Nat)(h:e≤bs.length):(bytesOf bs 0 e).data.toList=bs.take e:=by simp[bytesOf]
theorem readLine_set (g o n c:Nat)(bs:List UInt8)(w:World)(e size:Nat)(hB:BytesIn w g o n c bs)(he:e<n)(h60:e≤60)(hsz:setSizeR (wordsOf (bs.take e))=some size):Calls Tryz.prog 216 #[.slice (some ⟨g,o,none⟩) n c,.int .i64 (e:Int)] w fun r w'=>StepOut w w' (setR bs (e+1) ((wordsOf (bs.take e)).getD 1 noB) size) r∧Below w.heap.size w w':=by
 have hl:=hB.len;have hsm:=hB.small;have hcap:=hB.cap;have hlt:=hB.lt;have hb0:=bytes0 bs e (by omega);have HS:=hide' (fun W=>split_any (bytesOf bs 0 e) W (by show((bs.drop 0).take e).toArray.size<4294967281;simp;omega));have hcv:=conv_by (w.alloc (.cells #[.int .i64 0,.slice none 0 0,.string ⟨#[]⟩,.string ⟨#[]⟩,.bool false,.int .i64 0,.int .i64 0,.bool false] 255)) g o n c 0 e c bs (hB.later ((Below.refl _ _).alloc (Nat.le_refl _) _)) (by omega);rw[Nat.add_zero]at hcv;rw[hb0]at HS;have hw3:(wordsOf (bs.take e)).length=3:=by
  unfold setSizeR at hsz;split at hsz
  ·rename_i h;exact h.1
  ·cases hsz
 have hss:∀s∈wordsOf (bs.take e),s.size≤60:=by
  intro s hs;obtain⟨x,hx,rfl⟩:=List.mem_map.1 hs;have:=splitL_sizes _ x hx;show x.toArray.size≤60;simp at this⊢;omega
 have hs999:size≤999:=by
  unfold setSizeR at hsz;split at hsz
  ·exact countS_le hsz
  ·cases hsz
 have HB:=hide' hB;clear hB hb0 hl;generalize bytesOf bs 0 e=line at*;generalize wordsOf (bs.take e)=ws at*;match ws,hw3,hsz,hss,HS with
 | [x,y,z],_,hsz,hss,HS=>
  have HSZ:=hide' hsz;have hy:(60:Nat)≤maxLen:=by unfold maxLen;omega
  have hss':∀s∈[x,y,z],s.size≤maxLen:=fun s hs=>Nat.le_trans (hss s hs) hy
  clear hsz hss;have ht:List.take e bs=List.take e bs:=rfl;clear ht;simp only[List.length_cons,List.length_nil,List.map_cons,List.map_nil]at HS;have hec:e≤c:=by omega
  have hec':(e:Int)≤(c:Int):=by omega
  show Calls _ _ _ _ fun r w'=>StepOut w w' (setR bs (e+1) y size) r∧Below w.heap.size w w'
  obtain⟨RES,hRES⟩:∃R,setR bs (e+1) y size=R:=⟨_,rfl⟩
  have HRES:=hide' hRES;rw[hRES];clear hRES;go_enter Tryz.func216,Tryz.ntmps216;go_wp2_with fail
  go_at_call 221;refine(HS.out _).mono ?_;rintro r w1 ⟨rfl,hw1⟩;have hblk:w1.heap[w.heap.size+1]?=some (.cells #[.string x,.string y,.string z] 9 (0,0)):=by
   rw[hw1];have:=blkNew (w.alloc (.cells #[.int .i64 0,.slice none 0 0,.string ⟨#[]⟩,.string ⟨#[]⟩,.bool false,.int .i64 0,.int .i64 0,.bool false] 255)) (.cells #[.string x,.string y,.string z] 9);rw[World.size_alloc]at this;exact this
  have hRb:w1.heap[w.heap.size]?=some (.cells #[.int .i64 0,.slice none 0 0,.string ⟨#[]⟩,.string ⟨#[]⟩,.bool false,.int .i64 0,.int .i64 0,.bool false] 255 (0,0)):=by
   rw[hw1];exact(Below.heap_alloc _ _ _ (by simp)).trans (blkNew w _)
  have hbel:Below w.heap.size w w1:=by rw[hw1];exact((Below.refl _ _).alloc (Nat.le_refl _) _).alloc (by simp) _
  have hblt:=blkLt hblk;have HSS:=hide' (setSize_any [x,y,z] (w.heap.size+1) 0 3 w1 (fun i s hs=>by
   rw[Nat.zero_add,blkCell hblk i];match i,hs with
   |0,hs=>simp at hs;subst hs;rfl
   |1,hs=>simp at hs;subst hs;rfl
   |2,hs=>simp at hs;subst hs;rfl) hblt (by simp) (by show 3≤maxLen;decide) hss')
  have cy:w1.cell? ⟨w.heap.size+1,1,none⟩=some (.string y):=blkCell hblk 1;have HK:=hide' (And.intro hRb hbel);clear hw1 hblk hRb hbel hcv;rw[HSZ.out]at HSS;have HRS:=hide' (readSet_any g o n c bs w1 (e+1) size y (HB.out.later HK.out.2) (by omega) hs999 (by omega));rw[HRES.out]at HRS;simp only[List.length_cons,List.length_nil,Nat.zero_add,Nat.reduceAdd]at HSS;go_wp2_with (first
   |(go_at_call 222;refine HSS.out.mono ?_;rintro r w' ⟨rfl,rfl⟩;unfold cntV;dsimp only[Option.getD_some,Option.isSome_some])
   |fail)
  go_at_call 223;refine HRS.out.mono ?_;rintro r w3 ⟨hr3,hb3⟩;have hR3:=(hb3.block _ (blkLt HK.out.1)).trans HK.out.1;have H3:=hide' (HK.out.2.trans (hb3.mono HK.out.2.size));obtain⟨⟨r0,r1,r2,r3,r4,r5,r6,r7⟩,rf⟩:=zcells_of hR3;have hz3:=blkLt hR3;have hsz3:=hb3.size;clear hb3 hR3 HRS HSS;cases RES with
  |none=>
   have he:r= .returned zStepV:=hr3;subst he;unfold zStepV;go_wp2;refine bodyPost_ret (v:=zStepV) (by simp[results,Tryz.results216,go_sem,zStepV,r0,r1,r2,r3,r4,r5,r6,r7]) rfl ⟨rfl,?_⟩;exact set8 H3.out (Nat.le_refl _) _ _ _ _ _ _ _ _
  |some SR=>
   obtain⟨kv,he,hkv⟩:=hr3;obtain⟨ka,kn,kc,hkf⟩:=hkv.form';subst hkf;subst he;have HKV:=hide' hkv;clear hkv;unfold stepV;go_wp2;refine bodyPost_ret (v:=stepV SR.c.kind (.slice ka kn kc) SR.c.val SR.c.word SR.c.fatal SR.c.id SR.used SR.skip) (by simp[results,Tryz.results216,go_sem,stepV,r0,r1,r2,r3,r4,r5,r6,r7]) rfl ⟨⟨_,rfl,?_⟩,?_⟩
   ·rcases HKV.out with h|⟨b,c',e1,e2,e3⟩
    ·exact .inl h
    ·have:=HK.out.2.size;refine .inr ⟨b,c',e1,by omega,e3.other (set8_other (by omega) _ _ _ _ _ _ _ _)⟩
   ·exact set8 H3.out (Nat.le_refl _) _ _ _ _ _ _ _ _
end Go.Proofs.YtlonjggfnleolaaGreatDoor
