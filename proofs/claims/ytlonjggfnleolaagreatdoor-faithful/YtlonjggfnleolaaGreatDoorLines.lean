import Derived.Test.YtlonjggfnleolaaGreatDoorRing
import Derived.Deep.RegionWith
import Derived.Shelf.Strings.Builder1
import Derived.Shelf.Strings.Builder2
import Derived.Shelf.Strings.OnBuilder
import Derived.Test.YtlonjggfnleolaaGreatDoorProg
import Derived.Deep.RegionHeld3
import Derived.Laws.BitsAllLaws
import Derived.Deep.Cut
namespace Go.Proofs.YtlonjggfnleolaaGreatDoor
open Go.RowKit
set_option linter.unusedVariables false
def cmdB (k:Int)(ss:List ByteArray)(val:ByteArray):Bool:=
 if k=1 then keysB ss 4&&val.toList.isEmpty else if k=2 then keysB ss 1&&decide ((val.size:Int)≤40)else if k=3 then keysB ss 1&&val.toList.isEmpty else false
def cmdV6 (k:Int)(v:Value)(val wd:ByteArray)(ft:Bool)(id:Int):Value:= .agg #[.int .i64 k,v,.string val,.string wd,.bool ft,.int .i64 id]
theorem cmd_any (k:Int)(v:Value)(ss:List ByteArray)(val wd:ByteArray)(ft:Bool)(id:Int)(w:World)(h:StrsAt w v ss)(hv:val.size≤maxLen):Calls Tryz.prog 48 #[cmdV6 k v val wd ft id] w fun e w'=>e= .returned (.bool (cmdB k ss val))∧Below w.heap.size w w':=by
 unfold cmdV6;by_cases h1:k=1
 ·subst h1;have:=cmd_get v ss val wd ft id w h hv;simpa [cmdB]using this
 ·by_cases h2:k=2
  ·subst h2;have:=cmd_set v ss val wd ft id w h hv;simpa [cmdB]using this
  ·by_cases h3:k=3
   ·subst h3;have:=cmd_del v ss val wd ft id w h hv;simpa [cmdB]using this
   ·have:=cmd_other k v val wd ft id w h1 h2 h3;simpa [cmdB,h1,h2,h3]using this
set_option maxHeartbeats 400000
theorem of3 (w:World):Calls Tryz.prog 47 #[.int .i64 3] w fun e w'=>e= .returned (.tuple #[.iface 162 (.agg #[]),.bool true])∧w'=w:=by
 go_enter Tryz.func47,Tryz.ntmps47;go_wp2;go_ret2;exact⟨rfl,rfl⟩
theorem of2 (w:World):Calls Tryz.prog 47 #[.int .i64 2] w fun e w'=>e= .returned (.tuple #[.iface 161 (.agg #[]),.bool true])∧w'=w:=by
 go_enter Tryz.func47,Tryz.ntmps47;go_wp2;go_ret2;exact⟨rfl,rfl⟩
theorem of1 (w:World):Calls Tryz.prog 47 #[.int .i64 1] w fun e w'=>e= .returned (.tuple #[.iface 160 (.agg #[]),.bool true])∧w'=w:=by
 go_enter Tryz.func47,Tryz.ntmps47;go_wp2;go_ret2;exact⟨rfl,rfl⟩
theorem decoder3 (w:World):Calls Tryz.prog 43 #[.int .i64 3] w fun e w'=>e= .returned (.tuple #[.pointer (some ⟨w.heap.size,0,none⟩),.int .i64 0])∧w'=w.alloc (.cells #[.iface 162 (.agg #[]),.slice none 0 0,.int .i64 0,.bool false,.bool false] 134):=by
 go_enter Tryz.func43,Tryz.ntmps43;go_wp2_with (go_at_call 47;refine(of3 _).mono ?_;rintro e w' ⟨rfl,rfl⟩)
 go_ret2;exact⟨rfl,rfl⟩
set_option maxHeartbeats 1000000
set_option maxRecDepth 20000
theorem b8a:keysB [⟨#[97]⟩] 1=true:=by decide+kernel
theorem nameOf2 (w:World):Calls Tryz.prog 213 #[.int .i64 2] w fun e w'=>e= .returned (.string ⟨#[115,101,116]⟩)∧w'=w:=by
 go_enter Tryz.func213,Tryz.ntmps213;go_wp2;go_ret;exact⟨rfl,rfl⟩
theorem join1 (b o c:Nat)(s sep:ByteArray)(w:World)(h:w.cell? ⟨b,o,none⟩=some (.string s)):Calls Tryz.prog 214 #[.slice (some ⟨b,o,none⟩) 1 c,.string sep] w fun e w'=>e= .returned (.string s)∧w'=w:=by
 go_enter Tryz.func214,Tryz.ntmps214;go_wp2;go_ret;exact⟨rfl,rfl⟩
theorem sized_any (s:ByteArray)(w:World)(hs:s.size<100):Calls Tryz.prog 215 #[.string s] w fun e w'=>e= .returned (.string (dec100 s.size++⟨#[10]⟩++s++⟨#[10]⟩))∧w'=w:=by
 have hd:=dec100_size s.size;go_enter Tryz.func215,Tryz.ntmps215;go_wp2_with (go_at_call 122;refine(itoa_any _ _ hs).mono ?_;rintro e w' ⟨rfl,rfl⟩)
 go_ret;exact⟨rfl,rfl⟩
theorem canSay1 (c:Array Value)(id:Int)(w:World):Calls Tryz.prog 210 #[.agg #[],.agg c,.int .i64 id] w fun e w'=>e= .returned (.bool true)∧Below w.heap.size w w':=by
 go_enter Tryz.func210,Tryz.ntmps210;go_wp2;go_ret;exact⟨rfl,((Below.refl _ _).alloc (Nat.le_refl _) _).alloc (by simp) _⟩
theorem bcell {W w1:World}(hb:Below W.heap.size W w1):(∀b o,b<W.heap.size→w1.cell? ⟨b,o,none⟩=W.cell? ⟨b,o,none⟩)∧(∀b o,b<W.heap.size→w1.frozen? ⟨b,o,none⟩=W.frozen? ⟨b,o,none⟩):=
 ⟨fun b o h=>hb.cell (p:=⟨b,o,none⟩) h,fun b o h=>hb.frozen (p:=⟨b,o,none⟩) h⟩
theorem linesAsk_words (b:Nat)(w:World)(hb:b<w.heap.size)(h:w.cell? ⟨b,0,none⟩=some (.string ⟨#[97]⟩)):Calls Tryz.prog 209 #[.agg #[],.agg #[.int .i64 2,.slice (some ⟨b,0,none⟩) 1 1,.string ⟨#[120,121]⟩,.string ⟨#[]⟩,.bool false,.int .i64 0],.int .i64 0] w fun e w'=>e= .returned (.string ⟨#[115,101,116,32,97,32,50,10,120,121,10]⟩)∧Below w.heap.size w w':=by
 have hd:dec100 2=⟨#[50]⟩:=by decide+kernel
 go_enter Tryz.func209,Tryz.ntmps209;go_wp2;go_quiet ((first|(go_at_call 213;exact Calls.quiet_of_same (nameOf2 _))|(go_at_call 214;refine Calls.quiet_of_same (join1 _ _ _ ⟨#[97]⟩ _ _ ?_);go_simp)))
 go_wp2_with (go_at_call 215;refine(sized_any _ _ (by decide)).mono ?_;rintro e w' ⟨rfl,rfl⟩)
 go_ret;exact⟨ret_str (by decide+kernel),below_drewN (((Below.refl _ _).alloc (Nat.le_refl _) _).alloc (by simp) _) nq⟩
theorem m_canSay1 (w:World):(method 432 160 (.agg #[]) "CanSay").run Tryz.prog w= .ok (210,.agg #[]) w:=by kernel_rfl
theorem m_ask1 (w:World):(method 432 160 (.agg #[]) "Ask").run Tryz.prog w= .ok (209,.agg #[]) w:=by kernel_rfl
theorem ask_words (b:Nat)(w:World)(hb:b<w.heap.size)(h:w.cell? ⟨b,0,none⟩=some (.string ⟨#[97]⟩)):Calls Tryz.prog 21 #[.int .i64 1,.agg #[.int .i64 2,.slice (some ⟨b,0,none⟩) 1 1,.string ⟨#[120,121]⟩,.string ⟨#[]⟩,.bool false,.int .i64 0],.int .i64 0] w fun e w'=>e= .returned (.tuple #[.string ⟨#[115,101,116,32,97,32,50,10,120,121,10]⟩,.int .i64 0])∧Below w.heap.size w w':=by
 have hS:StrsAt w (.slice (some ⟨b,0,none⟩) 1 1) [⟨#[97]⟩]:=⟨.inl ⟨b,0,1,rfl,hb,fun i s hs=>by
  match i,hs with
  |0,hs=>simp at hs;subst hs;exact h⟩,by simp,by decide⟩
 go_enter Tryz.func21,Tryz.ntmps21;go_wp2_with (go_at_call 47;refine(of1 _).mono ?_;rintro e w' ⟨rfl,rfl⟩)
 go_at_call 48;refine(cmd_set _ [⟨#[97]⟩] _ _ _ _ _ (hS.later ((Below.refl _ _).alloc (Nat.le_refl _) _)) (by decide)).mono ?_;rintro e w1 ⟨rfl,hb1⟩;obtain⟨hc,hf⟩:=bcell hb1;have hz:w.heap.size<w1.heap.size:=by have:=hb1.size;simp at this;omega
 have hk:=b8a;have hm1:=m_canSay1;have hm2:=m_ask1;go_wp2_with fail
 go_at_call 210;refine(canSay1 _ _ _).mono ?_;rintro e w2 ⟨rfl,hb2⟩;obtain⟨hc2,hf2⟩:=bcell hb2;have hz2:w.heap.size<w2.heap.size:=by have:=hb2.size;omega
 go_wp2_with fail
 go_at_call 209;refine(linesAsk_words b _ (by omega) ?_).mono ?_
 ·rw[hc2 _ _ (by omega),hc _ _ (by simp;omega)];go_simp
 rintro e w3 ⟨rfl,hb3⟩;go_wp2;go_ret2;have q1:Below w.heap.size w w1:=((Below.refl _ _).alloc (Nat.le_refl _) _).trans (hb1.mono (by simp));exact⟨rfl,(q1.trans (hb2.mono q1.size)).trans (hb3.mono (by omega))⟩
set_option maxHeartbeats 1000000
theorem conv7 (w:World)(b0 b1 b2 b3 b4 b5 b6:Int):
 (convert 80 9 (.slice (some ⟨w.heap.size,0,none⟩) 7 7)).run Tryz.prog (w.alloc (.cells #[.int .u8 b0,.int .u8 b1,.int .u8 b2,.int .u8 b3,.int .u8 b4,.int .u8 b5,.int .u8 b6] 5))=
  .ok (.string (strOfNums [b0,b1,b2,b3,b4,b5,b6])) (w.alloc (.cells #[.int .u8 b0,.int .u8 b1,.int .u8 b2,.int .u8 b3,.int .u8 b4,.int .u8 b5,.int .u8 b6] 5)):=
 run_convert_bytes_arg (P:=Tryz.prog) _ 80 5 Tryz.underlying80 Tryz.underlying5 w.heap.size 0 7 7 [b0,b1,b2,b3,b4,b5,b6] rfl (fun i hi=>by
  have h7:i=0∨i=1∨i=2∨i=3∨i=4∨i=5∨i=6:=by omega
  rcases h7 with rfl|rfl|rfl|rfl|rfl|rfl|rfl<;>simp) 9 Tryz.underlying9
def headB (a b c size id:Int):ByteArray:=strOfNums [a,b,c,size % 256,size / 256,id % 256,id / 256]
theorem frame_any (a b c size id:Int)(w:World)(ha:0≤a∧a<256)(hb:0≤b∧b<256)(hc:0≤c∧c<256)(hs:0≤size∧size<65536)(hi:0≤id∧id<65536):Calls Tryz.prog 180 #[.int .i64 a,.int .i64 b,.int .i64 c,.int .i64 size,.int .i64 id] w fun e w'=>e= .returned (.string (headB a b c size id))∧Below w.heap.size w w':=by
 have hcv:=conv7;obtain⟨a1,a2⟩:=ha;obtain⟨b1,b2⟩:=hb;obtain⟨c1,c2⟩:=hc;obtain⟨s1,s2⟩:=hs;obtain⟨i1,i2⟩:=hi;go_enter Tryz.func180,Tryz.ntmps180;go_wp2;go_ret;exact⟨rfl,(Below.refl _ _).alloc (Nat.le_refl _) _⟩
end Go.Proofs.YtlonjggfnleolaaGreatDoor
namespace Go.Proofs
open Go.Shelf
def Tryz.lays169_ren:Go.Shelf.Ren:=⟨fun|169=>57|n=>n,fun|70=>121|9=>9|0=>0|72=>123|37=>80|127=>173|3=>3|5=>5|n=>n,fun|n=>n⟩
theorem Tryz.lays169:Go.Proofs.Lays.n169 Tryz.prog Tryz.lays169_ren:={
 mixed:=by kernel_rfl
 f169:=Tryz.func57.trans (congrArg some (by kernel_rfl))
 t0:=Tryz.underlying0
 a0:=Tryz.isAgg0
 z0:=Tryz.sizeOf0
 v0:=Tryz.zeroValue0
 t3:=Tryz.underlying3
 a3:=Tryz.isAgg3
 z3:=Tryz.sizeOf3
 v3:=Tryz.zeroValue3
 t9:=Tryz.underlying9
 a9:=Tryz.isAgg9
 z9:=Tryz.sizeOf9
 v9:=Tryz.zeroValue9
 t37:=Tryz.underlying80
 a37:=Tryz.isAgg80
 z37:=Tryz.sizeOf80
 v37:=Tryz.zeroValue80
 t70:=Tryz.underlying121
 a70:=Tryz.isAgg121
 z70:=Tryz.sizeOf121
 v70:=Tryz.zeroValue121
 t72:=Tryz.underlying123
 a72:=Tryz.isAgg123
 z72:=Tryz.sizeOf123
 v72:=Tryz.zeroValue123
 t127:=Tryz.underlying173
 a127:=Tryz.isAgg173
 z127:=Tryz.sizeOf173
 v127:=Tryz.zeroValue173}
theorem Tryz.Builder_Extra_169:Builder.Extra Tryz.prog Tryz.lays169_ren:={
 sizeBuilder:=by kernel_rfl
 liesBuilder:=by kernel_rfl
 t5:=Tryz.underlying5
 a5:=Tryz.isAgg5
 z5:=Tryz.sizeOf5
 v5:=Tryz.zeroValue5
 infoByte:=by kernel_rfl
 cellsByte:=by kernel_rfl
 sizeByte:=by kernel_rfl
 neB5:=by decide}
open Go.RowKit in
theorem Tryz.Builder_String (B b:Nat)(l:List UInt8)(w:World)(h:Lib.IsBuilder 123 5 B b (Lib.byteCells l) w)(h0:l≠[]):
 Calls Tryz.prog 57 #[.pointer (some ⟨b,0,none⟩)] w fun e w'=>e= .returned (.string ⟨l.toArray⟩)∧Below B w w':=Any.Builder_String Tryz.lays169 Tryz.Builder_Extra_169 B b l w h h0
open Go.RowKit in
theorem Tryz.Builder_String_empty (B b:Nat)(w:World)(h:Lib.IsBuilder 123 5 B b [] w)(hBw:B≤w.heap.size):
 Calls Tryz.prog 57 #[.pointer (some ⟨b,0,none⟩)] w fun e w'=>e= .returned (.string ⟨#[]⟩)∧Below B w w':=Any.Builder_String_empty Tryz.lays169 Tryz.Builder_Extra_169 B b w h hBw
open Go.RowKit in
theorem Tryz.Builder_String_any (B b:Nat)(l:List UInt8)(w:World)(h:Lib.IsBuilder 123 5 B b (Lib.byteCells l) w)(hBw:B≤w.heap.size):
 Calls Tryz.prog 57 #[.pointer (some ⟨b,0,none⟩)] w fun e w'=>e= .returned (.string ⟨l.toArray⟩)∧Below B w w':=Any.Builder_String_any Tryz.lays169 Tryz.Builder_Extra_169 B b l w h hBw
def Tryz.lays156_ren:Go.Shelf.Ren:=⟨fun|156=>214|165=>220|166=>128|169=>57|240=>159|241=>225|276=>169|277=>228|n=>n,fun|31=>34|9=>9|3=>3|4=>4|0=>0|20=>20|72=>123|76=>213|70=>121|37=>80|75=>212|127=>173|164=>269|5=>5|80=>130|n=>n,fun|n=>n⟩
theorem Tryz.lays156:Go.Proofs.Lays.n156 Tryz.prog Tryz.lays156_ren:={
 mixed:=by kernel_rfl
 f156:=Tryz.func214.trans (congrArg some (by kernel_rfl))
 f165:=Tryz.func220.trans (congrArg some (by kernel_rfl))
 f166:=Tryz.func128.trans (congrArg some (by kernel_rfl))
 f169:=Tryz.func57.trans (congrArg some (by kernel_rfl))
 f240:=Tryz.func159.trans (congrArg some (by kernel_rfl))
 f241:=Tryz.func225.trans (congrArg some (by kernel_rfl))
 f276:=Tryz.func169.trans (congrArg some (by kernel_rfl))
 f277:=Tryz.func228.trans (congrArg some (by kernel_rfl))
 t0:=Tryz.underlying0
 a0:=Tryz.isAgg0
 z0:=Tryz.sizeOf0
 v0:=Tryz.zeroValue0
 t3:=Tryz.underlying3
 a3:=Tryz.isAgg3
 z3:=Tryz.sizeOf3
 v3:=Tryz.zeroValue3
 t4:=Tryz.underlying4
 a4:=Tryz.isAgg4
 z4:=Tryz.sizeOf4
 v4:=Tryz.zeroValue4
 t9:=Tryz.underlying9
 a9:=Tryz.isAgg9
 z9:=Tryz.sizeOf9
 v9:=Tryz.zeroValue9
 t20:=Tryz.underlying20
 a20:=Tryz.isAgg20
 z20:=Tryz.sizeOf20
 v20:=Tryz.zeroValue20
 t31:=Tryz.underlying34
 a31:=Tryz.isAgg34
 z31:=Tryz.sizeOf34
 v31:=Tryz.zeroValue34
 t37:=Tryz.underlying80
 a37:=Tryz.isAgg80
 z37:=Tryz.sizeOf80
 v37:=Tryz.zeroValue80
 t70:=Tryz.underlying121
 a70:=Tryz.isAgg121
 z70:=Tryz.sizeOf121
 v70:=Tryz.zeroValue121
 t72:=Tryz.underlying123
 a72:=Tryz.isAgg123
 z72:=Tryz.sizeOf123
 v72:=Tryz.zeroValue123
 t75:=Tryz.underlying212
 a75:=Tryz.isAgg212
 z75:=Tryz.sizeOf212
 v75:=Tryz.zeroValue212
 t76:=Tryz.underlying213
 a76:=Tryz.isAgg213
 z76:=Tryz.sizeOf213
 v76:=Tryz.zeroValue213
 t127:=Tryz.underlying173
 a127:=Tryz.isAgg173
 z127:=Tryz.sizeOf173
 v127:=Tryz.zeroValue173
 t164:=Tryz.underlying269
 a164:=Tryz.isAgg269
 z164:=Tryz.sizeOf269
 v164:=Tryz.zeroValue269}
theorem Tryz.Builder_Extra_156:Builder.Extra Tryz.prog Tryz.lays156_ren:={
 sizeBuilder:=by kernel_rfl
 liesBuilder:=by kernel_rfl
 t5:=Tryz.underlying5
 a5:=Tryz.isAgg5
 z5:=Tryz.sizeOf5
 v5:=Tryz.zeroValue5
 infoByte:=by kernel_rfl
 cellsByte:=by kernel_rfl
 sizeByte:=by kernel_rfl
 neB5:=by decide}
open Go.RowKit in
theorem Tryz.strings_Join_none (a:Option Addr)(c:Nat)(sep:ByteArray)(w:World):
 Calls Tryz.prog 214 #[.slice a 0 c,.string sep] w fun e w'=>e= .returned (.string ⟨#[]⟩)∧w'=w:=Any.strings_Join_none Tryz.lays156 Tryz.Builder_Extra_156 a c sep w
open Go.RowKit in
theorem Tryz.strings_Join (bk o c:Nat)(xs:List ByteArray)(sep:ByteArray)(w:World)(hcells:∀(j:Nat) x,xs[j]?=some x→w.cell? ⟨bk,o+j,none⟩=some (.string x))(hbk:bk<w.heap.size)(hN:xs.length≤140737488355328)(hcap:xs.length≤c)(hlen:(Lib.join (xs.map (·.data.toList)) sep.data.toList).length≤140737488355328):
 Calls Tryz.prog 214 #[.slice (some ⟨bk,o,none⟩) xs.length c,.string sep] w fun e w'=>e= .returned (.string ⟨(Lib.join (xs.map (·.data.toList)) sep.data.toList).toArray⟩)∧Below w.heap.size w w':=Any.strings_Join Tryz.lays156 Tryz.Builder_Extra_156 bk o c xs sep w hcells hbk hN hcap hlen
open Go.RowKit in
theorem Tryz.writeString (B b:Nat)(bs:List Value)(s:ByteArray)(w:World)(h:Lib.IsBuilder 123 5 B b bs w)(hlen:bs.length+s.size≤140737488355328)(hBw:B≤w.heap.size):
 Calls Tryz.prog 128 #[.pointer (some ⟨b,0,none⟩),.string s] w fun e w'=>e= .returned (.tuple #[.int .i64 s.size,.nilIface])∧(Lib.BuilderAt 123 5 B b (.pointer (some ⟨b,0,none⟩)) (bs++Lib.strCells s) w'∧Below B w w'):=
 Any.Builder_WriteString {Tryz.lays156 with} Tryz.Builder_Extra_156 B b bs s w h hlen hBw
end Go.Proofs
namespace Go.Proofs.YtlonjggfnleolaaGreatDoor
open Go.RowKit
set_option linter.unusedVariables false
set_option maxHeartbeats 2000000
set_option maxRecDepth 20000
variable {s:ByteArray}{ss:List ByteArray}
theorem hide3 {p:Prop}(h:p):Hid p:=h
theorem emptyB (h:s.toList.isEmpty=true):s.size=0:=by
 rw[ByteArray.toList_eq]at h;have:s.data.toList=[]:=by simpa using h
 have h2:s.data.toList.length=0:=by rw[this];rfl
 simpa using h2
structure Right (k:Int)(ss:List ByteArray)(val:ByteArray):Prop where
 kind:k=1∨k=2∨k=3
 len1:1≤ss.length
 len4:ss.length≤4
 one:k≠1→ss.length=1
 keys:∀s∈ss,s.size≤8
 val40:val.size≤40
 val0:k≠2→val.size=0
theorem keyB_size (h:keyB s=true):s.size≤8:=by
 simp only[keyB,withinB,Bool.and_eq_true,decide_eq_true_eq]at h;omega
theorem keysB_get {m:Int}(h:keysB ss m=true):1≤ss.length∧(ss.length:Int)≤m∧∀s∈ss,s.size≤8:=by
 simp only[keysB,withinB,Bool.and_eq_true,decide_eq_true_eq,List.all_eq_true]at h;exact⟨by omega,h.1.2,fun s hs=>keyB_size (h.2 s hs)⟩
theorem right_of {k:Int}{val:ByteArray}(h:cmdB k ss val=true):Right k ss val:=by
 unfold cmdB at h;split at h
 ·rename_i h1;simp only[Bool.and_eq_true]at h;obtain⟨a,b,c⟩:=keysB_get h.1;have:=emptyB h.2;exact⟨.inl h1,a,by omega,fun n=>absurd h1 n,c,by omega,fun _=>this⟩
 ·split at h
  ·rename_i h1 h2;simp only[Bool.and_eq_true,decide_eq_true_eq]at h;obtain⟨a,b,c⟩:=keysB_get h.1;exact⟨.inr (.inl h2),a,by omega,fun _=>by omega,c,by omega,fun n=>absurd h2 n⟩
  ·split at h
   ·rename_i h1 h2 h3;simp only[Bool.and_eq_true]at h;obtain⟨a,b,c⟩:=keysB_get h.1;have:=emptyB h.2;exact⟨.inr (.inr h3),a,by omega,fun _=>by omega,c,by omega,fun _=>this⟩
   ·cases h
theorem beq1 (n:Nat):((n:Int)==1)=decide (n=1):=by
 by_cases h:n=1
 ·simp[h]
 ·have:¬(n:Int)=1:=by omega
  simp[h,this]
def frSayB (k:Int)(n:Nat)(id:Int):Bool:=decide (0≤id)&&decide (id≤65535)&&(decide (k≠1) || decide (n=1))
theorem canSay2 (k:Int)(a:Option Addr)(n c:Nat)(val wd:ByteArray)(ft:Bool)(cid id:Int)(w:World):Calls Tryz.prog 243 #[.agg #[],cmdV6 k (.slice a n c) val wd ft cid,.int .i64 id] w fun e w'=>e= .returned (.bool (frSayB k n id))∧Below w.heap.size w w':=by
 unfold cmdV6;have hB:∀x y,Below w.heap.size w ((w.alloc x).alloc y):=fun x y=>((Below.refl _ _).alloc (Nat.le_refl _) _).alloc (by simp) _
 have HB:Hid (∀x y,Below w.heap.size w ((w.alloc x).alloc y)):=hB;clear hB;by_cases h1:0≤id
 ·by_cases h2:id≤65535
  ·by_cases h3:k=1
   ·subst h3;go_enter Tryz.func243,Tryz.ntmps243;go_wp2;go_ret;exact⟨ret_bool (by rw[beq1 n];simp[frSayB,h1,h2]),HB.out _ _⟩
   ·have h3':(k != 1)=true:=by simpa using h3
    go_enter Tryz.func243,Tryz.ntmps243;go_wp2;go_ret;exact⟨ret_bool (by simp[frSayB,h1,h2,h3]),HB.out _ _⟩
  ·have h2':¬id≤65535:=h2;go_enter Tryz.func243,Tryz.ntmps243;go_wp2;go_ret;exact⟨ret_bool (by
    have:decide (id≤65535)=false:=by simpa using h2'
    simp[frSayB,this]),HB.out _ _⟩
 ·have h1':¬0≤id:=h1;go_enter Tryz.func243,Tryz.ntmps243;go_wp2;go_ret;exact⟨ret_bool (by
   have:decide (0≤id)=false:=by simpa using h1'
   simp[frSayB,this]),HB.out _ _⟩
theorem canSay3 (c:Array Value)(id:Int)(w:World):Calls Tryz.prog 250 #[.agg #[],.agg c,.int .i64 id] w fun e w'=>e= .returned (.bool true)∧Below w.heap.size w w':=by
 go_enter Tryz.func250,Tryz.ntmps250;go_wp2;go_ret;exact⟨rfl,((Below.refl _ _).alloc (Nat.le_refl _) _).alloc (by simp) _⟩
theorem canSay1' (c:Array Value)(id:Int)(w:World):Calls Tryz.prog 210 #[.agg #[],.agg c,.int .i64 id] w fun e w'=>e= .returned (.bool true)∧Below w.heap.size w w':=by
 go_enter Tryz.func210,Tryz.ntmps210;go_wp2;go_ret;exact⟨rfl,((Below.refl _ _).alloc (Nat.le_refl _) _).alloc (by simp) _⟩
theorem frAsk (k:Int)(b o c:Nat)(key val wd:ByteArray)(ft:Bool)(cid id:Int)(w:World)(hk:k=1∨k=2∨k=3)(hb:b<w.heap.size)(hc:w.cell? ⟨b,o,none⟩=some (.string key))(hks:key.size≤8)(hv:val.size≤40)(h1:0≤id)(h2:id≤65535):Calls Tryz.prog 170 #[.agg #[],cmdV6 k (.slice (some ⟨b,o,none⟩) 1 c) val wd ft cid,.int .i64 id] w fun e w'=>e= .returned (.string (headB 1 k key.size val.size id++key++val))∧Below w.heap.size w w':=by
 unfold cmdV6;have k1:0≤k∧k<256:=by omega
 have HF:=fun W=>frame_any 1 k key.size val.size id W (by omega) k1 (by omega) (by omega) (by omega)
 have HH:Hid (∀W:World,Calls Tryz.prog 180 #[.int .i64 1,.int .i64 k,.int .i64 key.size,.int .i64 val.size,.int .i64 id] W fun e w'=>e= .returned (.string (headB 1 k key.size val.size id))∧Below W.heap.size W w'):=HF;have hsz:(headB 1 k key.size val.size id).size=7:=by unfold headB;rw[strOfNums_size];rfl
 have g1:¬9223372036854775807<7+key.size:=by omega
 have g2:¬9223372036854775807<7+key.size+val.size:=by omega
 clear HF k1 hk;go_enter Tryz.func170,Tryz.ntmps170;go_wp2;go_region_held3 (fun w'=>w'.cell? ⟨w.heap.size+1,0,none⟩=some (.int .i64 k)∧w'.cell? ⟨w.heap.size+1,2,none⟩=some (.string val)) (go_keep)
  (first|(go_at_call 180;refine(HH.out _).mono ?_;rintro e w5 ⟨rfl,hB5⟩;have hS5:=(hB5.cell (p:=⟨w.heap.size+1,0,none⟩) (by simp));have hS6:=(hB5.cell (p:=⟨w.heap.size+1,2,none⟩) (by simp));have HB5:=hide3 hB5;clear hB5))
 go_wp2;go_ret;exact⟨rfl,((((Below.refl _ _).alloc (Nat.le_refl _) _).alloc (by simp) _).drew).trans (HB5.out.mono (by simp[Nat.le_add_right,Nat.add_assoc]))⟩
set_option maxHeartbeats 4000000
set_option maxRecDepth 20000
def nameB (k:Int):ByteArray:=if k=1 then⟨#[103,101,116]⟩else if k=2 then⟨#[115,101,116]⟩else⟨#[100,101,108]⟩
theorem nameB_size (k:Int):(nameB k).size=3:=by unfold nameB;split;rfl;split<;>rfl
theorem nameOf_any (k:Int)(w:World)(hk:k=1∨k=2∨k=3):Calls Tryz.prog 213 #[.int .i64 k] w fun e w'=>e= .returned (.string (nameB k))∧w'=w:=by
 rcases hk with rfl|rfl|rfl;all_goals
  go_enter Tryz.func213,Tryz.ntmps213
  go_wp2
  go_ret
  exact⟨rfl,rfl⟩
def joinB (ss:List ByteArray):ByteArray:=⟨(Lib.join (ss.map (·.data.toList)) [32]).toArray⟩
theorem joinB_len (ss:List ByteArray):(joinB ss).size=(Lib.join (ss.map (·.data.toList)) [32]).length:=by simp[joinB,ByteArray.size]
theorem len_size (s:ByteArray):s.data.toList.length=s.size:=by simp
theorem joinB_size {ss:List ByteArray}(h1:1≤ss.length)(h4:ss.length≤4)(hs:∀s∈ss,s.size≤8):(joinB ss).size≤35:=by
 rw[joinB_len];match ss,h1,h4,hs with
 | [a],_,_,hs=>
  have ha:=hs a (by simp);have la:=len_size a;simp only[List.map_cons,List.map_nil,Lib.join,List.intercalate,List.intersperse_singleton,List.flatten_cons,List.flatten_nil,List.length_append,List.length_nil];omega
 | [a,b],_,_,hs=>
  have ha:=hs a (by simp);have la:=len_size a;have hb:=hs b (by simp);have lb:=len_size b;simp only[List.map_cons,List.map_nil,Lib.join,List.intercalate,List.intersperse_cons_cons,List.intersperse_singleton,List.flatten_cons,List.flatten_nil,List.length_append,List.length_cons,List.length_nil];omega
 | [a,b,c],_,_,hs=>
  have ha:=hs a (by simp);have la:=len_size a;have hb:=hs b (by simp);have lb:=len_size b;have hc:=hs c (by simp);have lc:=len_size c;simp only[List.map_cons,List.map_nil,Lib.join,List.intercalate,List.intersperse_cons_cons,List.intersperse_singleton,List.flatten_cons,List.flatten_nil,List.length_append,List.length_cons,List.length_nil];omega
 | [a,b,c,d],_,_,hs=>
  have ha:=hs a (by simp);have la:=len_size a;have hb:=hs b (by simp);have lb:=len_size b;have hc:=hs c (by simp);have lc:=len_size c;have hd:=hs d (by simp);have ld:=len_size d;simp only[List.map_cons,List.map_nil,Lib.join,List.intercalate,List.intersperse_cons_cons,List.intersperse_singleton,List.flatten_cons,List.flatten_nil,List.length_append,List.length_cons,List.length_nil];omega
theorem join_any (bk o c:Nat)(ss:List ByteArray)(w:World)(hcells:∀(j:Nat) x,ss[j]?=some x→w.cell? ⟨bk,o+j,none⟩=some (.string x))(hbk:bk<w.heap.size)(hcap:ss.length≤c)(h1:1≤ss.length)(h4:ss.length≤4)(hs:∀s∈ss,s.size≤8):Calls Tryz.prog 214 #[.slice (some ⟨bk,o,none⟩) ss.length c,.string ⟨#[32]⟩] w fun e w'=>e= .returned (.string (joinB ss))∧Below w.heap.size w w':=by
 have hz:=joinB_size h1 h4 hs;have hz2:(Lib.join (ss.map (·.data.toList)) [32]).length≤35:=by
  have e:(joinB ss).size=(Lib.join (ss.map (·.data.toList)) [32]).length:=by simp[joinB,ByteArray.size]
  omega
 exact Tryz.strings_Join bk o c ss ⟨#[32]⟩ w hcells hbk (by omega) hcap (by show(Lib.join (ss.map (·.data.toList)) [32]).length≤_;omega)
def sizedB (s:ByteArray):ByteArray:=dec100 s.size++⟨#[10]⟩++s++⟨#[10]⟩
def linesAskB (k:Int)(ss:List ByteArray)(val:ByteArray):ByteArray:=
 if k=2 then nameB k++⟨#[32]⟩++joinB ss++⟨#[32]⟩++sizedB val else nameB k++⟨#[32]⟩++joinB ss++⟨#[10]⟩
theorem sized_any' (s:ByteArray)(w:World)(hs:s.size<100):Calls Tryz.prog 215 #[.string s] w fun e w'=>e= .returned (.string (sizedB s))∧w'=w:=sized_any s w hs
theorem sizedB_size {s:ByteArray}(h:s.size≤40):(sizedB s).size≤44:=by
 have:=dec100_size s.size;have e:(ByteArray.mk #[10]).size=1:=rfl;unfold sizedB;rw[ByteArray.size_append,ByteArray.size_append,ByteArray.size_append];omega
theorem liAsk (k:Int)(b o c:Nat)(ss:List ByteArray)(val wd:ByteArray)(ft:Bool)(cid id:Int)(w:World)(R:Right k ss val)(hb:b<w.heap.size)(hcap:ss.length≤c)(hc:∀(j:Nat) x,ss[j]?=some x→w.cell? ⟨b,o+j,none⟩=some (.string x)):Calls Tryz.prog 209 #[.agg #[],cmdV6 k (.slice (some ⟨b,o,none⟩) ss.length c) val wd ft cid,.int .i64 id] w fun e w'=>e= .returned (.string (linesAskB k ss val))∧Below w.heap.size w w':=by
 unfold cmdV6;have hz:=joinB_size R.len1 R.len4 R.keys;have hns:=nameB_size k;have hzs:=sizedB_size R.val40;have HJ:Hid (∀W:World,Below w.heap.size w W→Calls Tryz.prog 214 #[.slice (some ⟨b,o,none⟩) ss.length c,.string ⟨#[32]⟩] W fun e w'=>e= .returned (.string (joinB ss))∧Below W.heap.size W w'):=
  fun W hW=>join_any b o c ss W (fun j x hx=>(hW.cell (p:=⟨b,o+j,none⟩) hb).trans (hc j x hx)) (Nat.lt_of_lt_of_le hb hW.size) hcap R.len1 R.len4 R.keys
 have HN:Hid (∀W:World,Calls Tryz.prog 213 #[.int .i64 k] W fun e w'=>e= .returned (.string (nameB k))∧w'=W):=fun W=>nameOf_any k W R.kind
 have HZ:Hid (∀W:World,Calls Tryz.prog 215 #[.string val] W fun e w'=>e= .returned (.string (sizedB val))∧w'=W):=fun W=>sized_any' val W (by have:=R.val40;omega)
 have HK:Hid (k=1∨k=2∨k=3):=R.kind;clear R hc;generalize hL:ss.length=L at*;clear hL;have HS:Hid (linesAskB k ss val=if k=2 then nameB k++⟨#[32]⟩++joinB ss++⟨#[32]⟩++sizedB val else nameB k++⟨#[32]⟩++joinB ss++⟨#[10]⟩):=by show _=_;rfl
 generalize joinB ss=J at*;generalize sizedB val=Z at*;generalize nameB k=N at*;have c32:(ByteArray.mk #[32]).size=1:=rfl;have g1:¬9223372036854775807<3+1:=by omega
 have g2:¬9223372036854775807<3+1+J.size:=by omega
 go_enter Tryz.func209,Tryz.ntmps209;go_wp2;go_cut [7]from 8 (fun s7 W=>s7= .string (N++⟨#[32]⟩++J)∧Below w.heap.size w W∧W.cell? ⟨w.heap.size+1,0,none⟩=some (.int .i64 k)∧W.cell? ⟨w.heap.size+1,2,none⟩=some (.string val))
 case first=>
  go_region_held3 (fun w'=>w'.cell? ⟨w.heap.size+1,0,none⟩=some (.int .i64 k)∧w'.cell? ⟨w.heap.size+1,1,none⟩=some (.slice (some ⟨b,o,none⟩) L c)) (go_keep)
   (first
    |(go_at_call 213;refine(HN.out _).mono ?_;rintro e w4 ⟨rfl,rfl⟩)
    |(go_at_call 214;refine(HJ.out _ ?hx).mono ?_;(case hx=>repeat(first|exact Below.refl _ _|refine Below.drew ?_|refine below_drewN ?_ _|refine Below.alloc ?_ (by simp;try omega) _));rintro e w5 ⟨rfl,hB5⟩;have hS5:=(hB5.cell (p:=⟨w.heap.size+1,0,none⟩) (by simp));have hS6:=(hB5.cell (p:=⟨w.heap.size+1,1,none⟩) (by simp));have hS7:=(hB5.cell (p:=⟨w.heap.size+1,2,none⟩) (by simp));have HB5:=hide3 hB5;clear hB5))
  all_goals
   go_wp2_with fail
   go_meet
  all_goals
   exact⟨rfl,((((Below.refl _ _).alloc (Nat.le_refl _) _).alloc (by simp) _).drew).trans (HB5.out.mono (by simp[Nat.le_add_right,Nat.add_assoc])),by rw[hS5];go_simp,by rw[hS7];go_simp⟩
 case rest=>
  obtain⟨rfl,hBc,q0,q2⟩:=hcut;have HBc:Hid (Below w.heap.size w wc):=hBc;clear hBc HJ HN;have g3:¬9223372036854775807<3+1+J.size+1:=by omega
  by_cases h2:k=2
  ·subst h2;have H2:=HS.out;rw[if_pos rfl]at H2;have H3:Hid (linesAskB 2 ss val=N++⟨#[32]⟩++J++⟨#[32]⟩++Z):=H2;clear H2 HS;go_wp2_with (go_at_call 215;refine(HZ.out _).mono ?_;rintro e w4 ⟨rfl,rfl⟩)
   go_ret;exact⟨ret_str H3.out.symm,HBc.out⟩
  ·have h2':(k==2)=false:=by simpa using h2
   have H2:=HS.out;rw[if_neg h2]at H2;have H3:Hid (linesAskB k ss val=N++⟨#[32]⟩++J++⟨#[10]⟩):=H2;clear H2 HS h2;go_wp2;go_ret;exact⟨ret_str H3.out.symm,HBc.out⟩
end Go.Proofs.YtlonjggfnleolaaGreatDoor
