import Derived.Test.YtlonjggfnleolaaGreatDoorRows
import Derived.WalkKit
import Derived.WalkSpells
import Derived.WalkLawsBesides
import Derived.OpenShut
import Derived.Deep.QuietTactic
import Derived.BigQuiet
import Derived.RegionTactic
import Derived.BigRegion
import Derived.Laws.BytesArg
namespace Go.Proofs.YtlonjggfnleolaaGreatDoor
open Go.RowKit
set_option linter.unusedVariables false
set_option maxHeartbeats 1000000
set_option maxRecDepth 100000
variable {a b n:Int}
theorem ret_int {k:IntKind}(h:a=b):Ending.returned (.int k a)= .returned (.int k b):=by rw[h]
theorem ret_bool {a b:Bool}(h:a=b):Ending.returned (.bool a)= .returned (.bool b):=by rw[h]
theorem ret_str {a b:ByteArray}(h:a=b):Ending.returned (.string a)= .returned (.string b):=by rw[h]
def withinB (a n b:Int):Bool:=decide (a≤n)&&decide (n≤b)
theorem withinB_t (h1:a≤n)(h2:n≤b):withinB a n b=true:=by simp[withinB,h1,h2]
theorem withinB_f (h1:¬(a≤n∧n≤b)):withinB a n b=false:=by
 simp only[withinB,Bool.and_eq_false_iff,decide_eq_false_iff_not];omega
theorem within_any (n a b:Int)(w:World):Calls Tryz.prog 77 #[.int .i64 n,.int .i64 a,.int .i64 b] w fun e w'=>e= .returned (.bool (withinB a n b))∧w'=w:=by
 by_cases h1:a≤n
 ·by_cases h2:n≤b
  ·go_enter Tryz.func77,Tryz.ntmps77;go_wp2;go_ret;exact⟨ret_bool (withinB_t h1 h2).symm,rfl⟩
  ·go_enter Tryz.func77,Tryz.ntmps77;go_wp2;go_ret;exact⟨ret_bool (by rw[withinB_f (by omega)]),rfl⟩
 ·go_enter Tryz.func77,Tryz.ntmps77;go_wp2;go_ret;exact⟨ret_bool (by rw[withinB_f (by omega)]),rfl⟩
def letB (b:UInt8):Bool:=decide (97≤(b.toNat:Int))&&decide ((b.toNat:Int)≤122)
def digB (b:UInt8):Bool:=decide (48≤(b.toNat:Int))&&decide ((b.toNat:Int)≤57)
def ldB (b:UInt8):Bool:=letB b || digB b
theorem letter_any (b:UInt8)(w:World):Calls Tryz.prog 80 #[.int .u8 b.toNat] w fun e w'=>e= .returned (.bool (letB b))∧w'=w:=by
 by_cases h1:97≤(b.toNat:Int)
 ·go_enter Tryz.func80,Tryz.ntmps80;go_wp2;go_ret;exact⟨by simp[letB,h1],rfl⟩
 ·have h1':decide (97≤(b.toNat:Int))=false:=by simpa using h1
  go_enter Tryz.func80,Tryz.ntmps80;go_wp2;go_ret;exact⟨ret_bool (by simp only[letB,h1',Bool.false_and]),rfl⟩
theorem digit_any (b:UInt8)(w:World):Calls Tryz.prog 81 #[.int .u8 b.toNat] w fun e w'=>e= .returned (.bool (digB b))∧w'=w:=by
 by_cases h1:48≤(b.toNat:Int)
 ·go_enter Tryz.func81,Tryz.ntmps81;go_wp2;go_ret;exact⟨by simp[digB,h1],rfl⟩
 ·have h1':decide (48≤(b.toNat:Int))=false:=by simpa using h1
  go_enter Tryz.func81,Tryz.ntmps81;go_wp2;go_ret;exact⟨ret_bool (by simp only[digB,h1',Bool.false_and]),rfl⟩
theorem key1_any (b:UInt8)(w:World):Calls Tryz.prog 79 #[.int .u8 b.toNat] w fun e w'=>e= .returned (.bool (ldB b))∧w'=w:=by
 by_cases h1:letB b=true
 ·go_enter Tryz.func79,Tryz.ntmps79;go_wp2_with (first|(go_at_call 80;refine(letter_any _ _).mono ?_;rintro e w' ⟨rfl,rfl⟩)|(go_at_call 81;refine(digit_any _ _).mono ?_;rintro e w' ⟨rfl,rfl⟩))
  go_ret;exact⟨ret_bool (by simp only[ldB,h1,Bool.true_or]),rfl⟩
 ·have h1':letB b=false:=by simpa using h1
  go_enter Tryz.func79,Tryz.ntmps79;go_wp2_with (first|(go_at_call 80;refine(letter_any _ _).mono ?_;rintro e w' ⟨rfl,rfl⟩)|(go_at_call 81;refine(digit_any _ _).mono ?_;rintro e w' ⟨rfl,rfl⟩))
  go_ret;exact⟨ret_bool (by simp only[ldB,h1',Bool.false_or]),rfl⟩
theorem take_snoc (s:ByteArray)(k:Nat)(h:k<s.size):s.data.toList.take (k+1)=s.data.toList.take k++[s[k]]:=by
 rw[List.take_succ_eq_append_getElem (by simpa using h)];rfl
def allLd (s:ByteArray):Bool:=s.data.toList.all ldB
theorem all_at {s:ByteArray}{k:Nat}{P:UInt8→Bool}(h:k<s.size)(hf:P s[k]=false):s.data.toList.all P=false:=by
 rw[List.all_eq_false];exact⟨s[k],by simp[ByteArray.getElem_eq_getElem_data],by simp[hf]⟩
theorem each_key (s:ByteArray)(w:World)(hs:s.size≤maxLen):Calls Tryz.prog 78 #[.string s,.func (.func 79) #[] #[]] w fun e w'=>e= .returned (.bool (allLd s))∧w'=w:=by
 unfold maxLen at hs;go_enter Tryz.func78,Tryz.ntmps78;go_wp2;go_loop [8] (fun i=>∃k:Nat,k≤s.size∧i= .int .i64 k∧(s.data.toList.take k).all ldB=true) (fun i=>s.size-(intOf i).toNat)
 case atStart=>exact⟨0,Nat.zero_le _,rfl,by simp⟩
 case round=>
  obtain⟨k,hk,rfl,hall⟩:=hrel;have HA:Hid ((s.data.toList.take k).all ldB=true):=hall;clear hall;by_cases hlt:k<s.size
  ·cases hb:ldB s[k]with
   |true=>
    go_wp2_with (go_at_call 79;refine(key1_any _ _).mono ?_;rintro e w' ⟨rfl,rfl⟩)
    go_round
    case rel=>exact⟨k+1,by omega,by go_num,by rw[take_snoc s k hlt];simp[HA.out,hb]⟩
    case measure=>simp[intOf];omega
   |false=>
    go_wp2_with (go_at_call 79;refine(key1_any _ _).mono ?_;rintro e w' ⟨rfl,rfl⟩)
    go_ret;exact⟨ret_bool (all_at hlt hb).symm,rfl⟩
  ·go_wp2;go_ret;exact⟨ret_bool (by rw[allLd,←HA.out,List.take_of_length_le (by simp;omega)]),rfl⟩
def keyB (s:ByteArray):Bool:=withinB 1 s.size 8&&allLd s
theorem key_any (s:ByteArray)(w:World)(hs:s.size≤maxLen):Calls Tryz.prog 50 #[.string s] w fun e w'=>e= .returned (.bool (keyB s))∧w'=w:=by
 have hs':=hs;unfold maxLen at hs;cases h1:withinB 1 s.size 8 with
 |true=>
  go_enter Tryz.func50,Tryz.ntmps50;go_wp2_with (first|(go_at_call 77;refine(within_any _ _ _ _).mono ?_;rintro e w' ⟨rfl,rfl⟩)|(go_at_call 78;refine(each_key _ _ hs').mono ?_;rintro e w' ⟨rfl,rfl⟩))
  go_ret;exact⟨ret_bool (by simp only[keyB,h1,Bool.true_and]),rfl⟩
 |false=>
  go_enter Tryz.func50,Tryz.ntmps50;go_wp2_with (first|(go_at_call 77;refine(within_any _ _ _ _).mono ?_;rintro e w' ⟨rfl,rfl⟩)|(go_at_call 78;refine(each_key _ _ hs').mono ?_;rintro e w' ⟨rfl,rfl⟩))
  go_ret;exact⟨ret_bool (by simp only[keyB,h1,Bool.false_and]),rfl⟩
def ringB (s p:Int):Bool:=withinB 1 s 4&&withinB 1 p 16
theorem ring_any (s p:Int)(w:World):Calls Tryz.prog 49 #[.int .i64 s,.int .i64 p] w fun e w'=>e= .returned (.bool (ringB s p))∧w'=w:=by
 cases h1:withinB 1 s 4 with
 |true=>
  go_enter Tryz.func49,Tryz.ntmps49;go_wp2_with (go_at_call 77;refine(within_any _ _ _ _).mono ?_;rintro e w' ⟨rfl,rfl⟩)
  go_ret;exact⟨ret_bool (by simp only[ringB,h1,Bool.true_and]),rfl⟩
 |false=>
  go_enter Tryz.func49,Tryz.ntmps49;go_wp2_with (go_at_call 77;refine(within_any _ _ _ _).mono ?_;rintro e w' ⟨rfl,rfl⟩)
  go_ret;exact⟨ret_bool (by simp only[ringB,h1,Bool.false_and]),rfl⟩
def hstep (h:Int)(b:UInt8):Int:=bits BinOp.xor IntKind.u32 h ((b.toNat:Int) % 4294967296)*16777619 % 4294967296
def hashTo (l:List UInt8):Int:=l.foldl hstep 2166136261
def num (l:List UInt8):Int:=hashTo l*16777619 % 4294967296
theorem num_bd (l:List UInt8):0≤num l∧num l<4294967296:=by unfold num;omega
theorem number_any (s:ByteArray)(w:World)(hs:s.size≤maxLen):Calls Tryz.prog 82 #[.string s] w fun e w'=>e= .returned (.int .u32 (num s.data.toList))∧w'=w:=by
 unfold maxLen at hs;go_enter Tryz.func82,Tryz.ntmps82;go_wp2;go_loop [3,7] (fun h i=>∃k:Nat,k≤s.size∧i= .int .i64 k∧h= .int .u32 (hashTo (s.data.toList.take k))) (fun _ i=>s.size-(intOf i).toNat)
 case atStart=>exact⟨0,Nat.zero_le _,rfl,rfl⟩
 case round=>
  obtain⟨k,hk,rfl,rfl⟩:=hrel;by_cases hlt:k<s.size
  ·go_wp2;go_round
   case rel=>exact⟨k+1,by omega,by go_num,by rw[take_snoc s k hlt];simp[hashTo,hstep]⟩
   case measure=>simp[intOf];omega
  ·go_wp2;go_ret;exact⟨ret_int (by rw[List.take_of_length_le (by simp;omega)];rfl),rfl⟩
def dec100 (n:Nat):ByteArray:=if n<10 then⟨#[UInt8.ofNat (48+n)]⟩else⟨#[UInt8.ofNat (48+n / 10),UInt8.ofNat (48+n % 10)]⟩
def digs36:ByteArray:=⟨#[48,49,50,51,52,53,54,55,56,57,97,98,99,100,101,102,103,104,105,106,107,108,109,110,111,112,113,114,115,116,117,118,119,120,121,122]⟩
def smallsB:ByteArray:=⟨#[48,48,48,49,48,50,48,51,48,52,48,53,48,54,48,55,48,56,48,57,49,48,49,49,49,50,49,51,49,52,49,53,49,54,49,55,49,56,49,57,50,48,50,49,50,50,50,51,50,52,50,53,50,54,50,55,50,56,50,57,51,48,51,49,51,50,51,51,51,52,51,53,51,54,51,55,51,56,51,57,52,48,52,49,52,50,52,51,52,52,52,53,52,54,52,55,52,56,52,57,53,48,53,49,53,50,53,51,53,52,53,53,53,54,53,55,53,56,53,57,54,48,54,49,54,50,54,51,54,52,54,53,54,54,54,55,54,56,54,57,55,48,55,49,55,50,55,51,55,52,55,53,55,54,55,55,55,56,55,57,56,48,56,49,56,50,56,51,56,52,56,53,56,54,56,55,56,56,56,57,57,48,57,49,57,50,57,51,57,52,57,53,57,54,57,55,57,56,57,57]⟩
theorem digs_at:∀n:Nat,n<10→digs36.extract n (n+1)=dec100 n:=by decide+kernel
theorem smalls_at':∀n:Nat,n<100→¬n<10→smallsB.extract (n*2) (n*2+2)=dec100 n:=by decide+kernel
theorem smalls_at (n:Nat)(h:¬n<10)(h2:n<100):smallsB.extract (n*2) (n*2+2)=dec100 n:=smalls_at' n h2 h
theorem small_any (n:Nat)(w:World)(hn:n<100):Calls Tryz.prog 176 #[.int .i64 n] w fun e w'=>e= .returned (.string (dec100 n))∧w'=w:=by
 by_cases h:n<10
 ·go_enter Tryz.func176,Tryz.ntmps176;go_wp2;go_ret;refine⟨ret_str ?_,rfl⟩;exact digs_at n h
 ·go_enter Tryz.func176,Tryz.ntmps176;go_wp2;go_ret;refine⟨ret_str ?_,rfl⟩;exact smalls_at n h hn
theorem formatInt_any (n:Nat)(w:World)(hn:n<100):Calls Tryz.prog 168 #[.int .i64 n,.int .i64 10] w fun e w'=>e= .returned (.string (dec100 n))∧w'=w:=by
 go_enter Tryz.func168,Tryz.ntmps168;go_wp2_with (go_at_call 176;refine(small_any _ _ hn).mono ?_;rintro e w' ⟨rfl,rfl⟩)
 go_ret;exact⟨rfl,rfl⟩
theorem itoa'_any (n:Nat)(w:World)(hn:n<100):Calls Tryz.prog 155 #[.int .i64 n] w fun e w'=>e= .returned (.string (dec100 n))∧w'=w:=by
 go_enter Tryz.func155,Tryz.ntmps155;go_wp2_with (go_at_call 168;refine(formatInt_any _ _ hn).mono ?_;rintro e w' ⟨rfl,rfl⟩)
 go_ret;exact⟨rfl,rfl⟩
theorem itoa_any (n:Nat)(w:World)(hn:n<100):Calls Tryz.prog 122 #[.int .i64 n] w fun e w'=>e= .returned (.string (dec100 n))∧w'=w:=by
 go_enter Tryz.func122,Tryz.ntmps122;go_wp2_with (go_at_call 155;refine(itoa'_any _ _ hn).mono ?_;rintro e w' ⟨rfl,rfl⟩)
 go_ret;exact⟨rfl,rfl⟩
theorem dec100_size (n:Nat):(dec100 n).size≤2:=by unfold dec100;split<;>simp[ByteArray.size]
set_option maxHeartbeats 1000000
variable {B t:Nat}{a w w':World}{p:Addr}{bs:List UInt8}
structure Only (B:Nat)(w w':World):Prop where
 os:w'.os=w.os
 tape:w'.tape=w.tape
 output:w'.output=w.output
 size:w'.heap.size=w.heap.size
 block:∀k,k≠B→w'.heap[k]?=w.heap[k]?
theorem Only.refl (B:Nat)(w:World):Only B w w:=⟨rfl,rfl,rfl,rfl,fun _ _=>rfl⟩
theorem Only.trans {b c:World}(h:Only B a b)(k:Only B b c):Only B a c:=
 ⟨k.os.trans h.os,k.tape.trans h.tape,k.output.trans h.output,k.size.trans h.size,fun i hi=>(k.block i hi).trans (h.block i hi)⟩
theorem Only.drew (h:Only B a w):Only B a w.drew:=⟨h.os,h.tape,h.output,h.size,h.block⟩
theorem Only.setCell (h:Only B a w)(hp:p.block=B)(u:Value):Only B a (w.setCell p u):=
 h.trans ⟨by simp[World.setCell],by simp[World.setCell],by simp[World.setCell],by simp,fun k hk=>Below.heap_setCell w p u k (by omega)⟩
theorem Only.below (h:Only B w w'):Below B w w':=⟨h.os,h.tape,h.output,Nat.le_of_eq h.size.symm,fun k hk=>h.block k (by omega)⟩
theorem Only.cell (h:Only B w w')(hp:p.block≠B):w'.cell? p=w.cell? p:=World.cell?_of_block (w:=w) (h.block p.block hp)
structure WalkAt (w:World)(B g o cap:Nat)(bs:List UInt8)(t:Nat):Prop where
 c0:w.cell? ⟨B,0,none⟩=some (.slice (some ⟨g,o,none⟩) bs.length cap)
 c1:w.cell? ⟨B,1,none⟩=some (.int .i64 t)
 c2:w.cell? ⟨B,2,none⟩=some (.bool false)
 c3:w.cell? ⟨B,3,none⟩=some (.bool false)
 f1:w.frozen? ⟨B,1,none⟩=false
 f2:w.frozen? ⟨B,2,none⟩=false
 f3:w.frozen? ⟨B,3,none⟩=false
 gB:g≠B
 small:bs.length≤1000000
 by_:∀(i:Nat) (b:UInt8),bs[i]?=some b→w.cell? ⟨g,o+i,none⟩=some (.int .u8 (b.toNat:Int))
theorem WalkAt.kept {g o cap:Nat}{t':Nat}(h:WalkAt w B g o cap bs t)(k:Only B w w')
 (c0:w'.cell? ⟨B,0,none⟩=some (.slice (some ⟨g,o,none⟩) bs.length cap))
 (c1:w'.cell? ⟨B,1,none⟩=some (.int .i64 t')) (c2:w'.cell? ⟨B,2,none⟩=some (.bool false)) (c3:w'.cell? ⟨B,3,none⟩=some (.bool false))
 (f:∀j,w'.frozen? ⟨B,j,none⟩=w.frozen? ⟨B,j,none⟩):WalkAt w' B g o cap bs t':=
 ⟨c0,c1,c2,c3,(f 1).trans h.f1,(f 2).trans h.f2,(f 3).trans h.f3,h.gB,h.small,fun i b hi=>(k.cell (p:=⟨g,o+i,none⟩) h.gB).trans (h.by_ i b hi)⟩
theorem get_lt {b:UInt8}(h:bs[t]?=some b):t<bs.length:=(List.getElem?_eq_some_iff.1 h).1
theorem next_ok (w:World)(B g o cap:Nat)(bs:List UInt8)(t:Nat)(b:UInt8)(W:WalkAt w B g o cap bs t)(hb:bs[t]?=some b):Calls Tryz.prog 258 #[.pointer (some ⟨B,0,none⟩)] w fun e w'=>e= .returned (.tuple #[.int .u8 (b.toNat:Int),.bool true])∧WalkAt w' B g o cap bs t∧Only B w w':=by
 have ht:=get_lt hb;have e1:((t:Int)==(bs.length:Int))=false:=by rw[beq_eq_false_iff_ne];omega
 have HW:Hid (WalkAt w B g o cap bs t):=W;obtain⟨c0,c1,c2,c3,f1,f2,f3,gB,sm,hbs⟩:=W;have cb:=hbs t b hb;clear hbs hb;generalize hn:bs.length=n at*;have HN:Hid (bs.length=n):=hn;clear hn;go_enter Tryz.func258,Tryz.ntmps258;go_wp2;go_region
 have d3:(w.setCell ⟨B,3,none⟩ (.bool false)).cell? ⟨B,3,none⟩=some (.bool false):=World.cell?_setCell_same' _ _ _ (by rw[c3];rfl);go_wp2;go_region
 go_wp2;go_ret2;have hO:Only B w ((w.setCell ⟨B,3,none⟩ (.bool false)).drew).drew:=(((Only.refl B w).setCell rfl _).drew).drew;refine⟨rfl,HW.out.kept hO (by rw[HN.out];go_simp) (by go_simp) (by go_simp) (by go_simp) (fun j=>by go_simp),hO⟩
theorem expect_ok (w:World)(B g o cap:Nat)(bs:List UInt8)(t:Nat)(b:UInt8)(W:WalkAt w B g o cap bs t)(hb:bs[t]?=some b):Calls Tryz.prog 253 #[.pointer (some ⟨B,0,none⟩),.int .u8 (b.toNat:Int)] w fun e w'=>e= .returned (.tuple #[])∧WalkAt w' B g o cap bs (t+1)∧Only B w w':=by
 have ht:=get_lt hb;have sm:=W.small;go_enter Tryz.func253,Tryz.ntmps253;go_wp2_with fail
 go_at_call 258;refine(next_ok w B g o cap bs t b W hb).mono ?_;rintro e w1 ⟨rfl,W1,O1⟩;have HW:Hid (WalkAt w1 B g o cap bs t):=W1;obtain⟨c0,c1,c2,c3,f1,f2,f3,gB,_,hbs⟩:=W1;clear hbs hb W;generalize hn:bs.length=n at*;have HN:Hid (bs.length=n):=hn;clear hn;have d2:(w1.setCell ⟨B,2,none⟩ (.bool false)).cell? ⟨B,2,none⟩=some (.bool false):=World.cell?_setCell_same' _ _ _ (by rw[c2];rfl);go_wp2;go_end0;have hO:Only B w1 ((w1.setCell ⟨B,2,none⟩ (.bool false)).setCell ⟨B,1,none⟩ (.int .i64 ((t:Int)+1))):=((Only.refl B w1).setCell rfl _).setCell rfl _;refine⟨rfl,HW.out.kept hO (by rw[HN.out];go_simp) (by go_simp) (by go_simp) (by go_simp) (fun j=>by go_simp),O1.trans hO⟩
set_option maxHeartbeats 1000000
theorem count1_ok (w:World)(B g o cap:Nat)(bs:List UInt8)(t:Nat)(d:UInt8)(lo hi:Int)(W:WalkAt w B g o cap bs t)(hb:bs[t]?=some d)(hb2:bs[t+1]?=some 10)(hd1:48≤d.toNat)(hd2:d.toNat≤57)(hlo:lo≤(d.toNat:Int)-48)(hhi:(d.toNat:Int)-48≤hi):Calls Tryz.prog 254 #[.pointer (some ⟨B,0,none⟩),.int .i64 lo,.int .i64 hi] w fun e w'=>e= .returned (.int .i64 ((d.toNat:Int)-48))∧WalkAt w' B g o cap bs (t+2)∧Only B w w':=by
 have ht:=get_lt hb;have ht2:=get_lt hb2;have sm:=W.small;have HN:=fun w W=>next_ok w B g o cap bs t d W hb
 have HN2:=fun w W=>next_ok w B g o cap bs (t+1) 10 W hb2
 have x1:(48:Int)≤(d.toNat:Int):=by omega
 have x2:(d.toNat:Int)≤57:=by omega
 generalize (d.toNat:Int)=x at*;clear hb hb2 hd1 hd2;have HX:Hid (∀(w:World),WalkAt w B g o cap bs t→Calls Tryz.prog 258 #[Value.pointer (some {block:=B,off:=0})] w fun e w'=>e=Ending.returned (Value.tuple #[Value.int IntKind.u8 x,Value.bool true])∧WalkAt w' B g o cap bs t∧Only B w w'):=HN;have HX2:Hid (∀(w:World),WalkAt w B g o cap bs (t+1)→Calls Tryz.prog 258 #[Value.pointer (some {block:=B,off:=0})] w fun e w'=>e=Ending.returned (Value.tuple #[Value.int IntKind.u8 10,Value.bool true])∧WalkAt w' B g o cap bs (t+1)∧Only B w w'):=HN2;clear HN HN2;go_enter Tryz.func254,Tryz.ntmps254;go_wp2;refine wp_loop_rounds 2 ?_;rw[rounds_succ];go_wp2_with fail
 go_at_call 258;refine(HX.out _ W).mono ?_;rintro e w1 ⟨rfl,W1,O1⟩;have HW:Hid (WalkAt w1 B g o cap bs t):=W1;obtain⟨c0,c1,c2,c3,f1,f2,f3,gB,_,hbs⟩:=W1;clear hbs W;have y1:¬x-48<0:=by omega
 have y2:¬9<x-48:=by omega
 have y3:¬hi<x-48:=by omega
 have y4:¬x-48<lo:=by omega
 go_wp2;have hO:Only B w1 (w1.setCell ⟨B,1,none⟩ (.int .i64 ((t:Int)+1))):=(Only.refl B w1).setCell rfl _;have W2:WalkAt (w1.setCell ⟨B,1,none⟩ (.int .i64 ((t:Int)+1))) B g o cap bs (t+1):=
  HW.out.kept hO (by go_simp) (by go_simp) (by go_simp) (by go_simp) (fun j=>by go_simp)
 rw[rounds_succ];go_wp2_with fail
 go_at_call 258;refine(HX2.out _ W2).mono ?_;rintro e w3 ⟨rfl,W3,O3⟩;have HW3:Hid (WalkAt w3 B g o cap bs (t+1)):=W3;obtain⟨d0,d1,d2,d3,k1,k2,k3,_,_,hbs⟩:=W3;clear hbs W2;go_wp2;go_ret;have hO2:Only B w3 (w3.setCell ⟨B,1,none⟩ (.int .i64 ((t:Int)+1+1))):=(Only.refl B w3).setCell rfl _;refine⟨ret_int rfl,HW3.out.kept hO2 (by go_simp) (by go_simp;omega) (by go_simp) (by go_simp) (fun j=>by go_simp),O1.trans (hO.trans (O3.trans hO2))⟩
set_option maxHeartbeats 1000000
set_option maxRecDepth 20000
theorem strOfNums_bytes (l:List UInt8):strOfNums (l.map fun b=>(b.toNat:Int))=⟨l.toArray⟩:=by
 unfold strOfNums;rw[List.map_map];congr 1;congr 1;conv=>rhs;rw[←List.map_id l]
 apply List.map_congr_left;intro x _;simp
theorem conv_win (W:World)(g o cap t k:Nat)(bs:List UInt8)(hc:∀(i:Nat) (b:UInt8),bs[i]?=some b→W.cell? ⟨g,o+i,none⟩=some (.int .u8 (b.toNat:Int)))(hk:t+k≤bs.length)(hcap:bs.length≤cap):(convert 80 9 (.slice (if cap=t then some ⟨g,o,none⟩else some ⟨g,o+t,none⟩) (t+k-t) (cap-t))).run Tryz.prog W= .ok (.string ⟨((bs.drop t).take k).toArray⟩) W:=by
 have hl:((bs.drop t).take k).length=k:=by simp;omega
 have e1:t+k-t=k:=by omega
 rw[e1];by_cases h:cap=t
 ·have hk0:k=0:=by omega
  subst hk0;rw[if_pos h,run_convert_bytes_arg (P:=Tryz.prog) W 80 5 Tryz.underlying80 Tryz.underlying5 g o 0 _ [] rfl (fun i hi=>by omega) 9 Tryz.underlying9];rfl
 ·rw[if_neg h,run_convert_bytes_arg (P:=Tryz.prog) W 80 5 Tryz.underlying80 Tryz.underlying5 g (o+t) k _ (((bs.drop t).take k).map fun b=>(b.toNat:Int)) (by simpa using hl) (fun i hi=>?_) 9 Tryz.underlying9,strOfNums_bytes];have hi2:t+i<bs.length:=by omega
  have e2:((bs.drop t).take k)[i]?=some bs[t+i]:=by
   rw[List.getElem?_take_of_lt hi,List.getElem?_drop,List.getElem?_eq_getElem hi2]
  rw[Nat.add_assoc,hc (t+i) bs[t+i] (List.getElem?_eq_getElem hi2)];rw[List.getD,List.getElem?_map,e2];rfl
theorem text_ok (w:World)(B g o cap:Nat)(bs:List UInt8)(t k:Nat)(W:WalkAt w B g o cap bs t)(hk:t+k≤bs.length)(hcap:bs.length≤cap)(hct:¬cap=t):Calls Tryz.prog 255 #[.pointer (some ⟨B,0,none⟩),.int .i64 k] w fun e w'=>e= .returned (.string ⟨((bs.drop t).take k).toArray⟩)∧WalkAt w' B g o cap bs (t+k)∧Only B w w':=by
 have HW:Hid (WalkAt w B g o cap bs t):=W;obtain⟨c0,c1,c2,c3,f1,f2,f3,gB,sm,hbs⟩:=W;have HB:Hid (∀(i:Nat) (b:UInt8),bs[i]?=some b→w.cell? ⟨g,o+i,none⟩=some (.int .u8 (b.toNat:Int))):=hbs;clear hbs;generalize hn:bs.length=n at*;have HN:Hid (bs.length=n):=hn;clear hn;have e0:¬(n:Int)-t<k:=by omega
 have d1:(w.setCell ⟨B,1,none⟩ (.int .i64 ((t:Int)+k))).cell? ⟨B,1,none⟩=some (.int .i64 ((t:Int)+k)):=World.cell?_setCell_same' _ _ _ (by rw[c1];rfl);have hcv:=conv_win ((w.setCell ⟨B,1,none⟩ (.int .i64 ((t:Int)+k))).drew.drew) g o cap t k bs (fun i b h=>by
  have:=HB.out i b h;rw[←this];have hO:Only B w ((w.setCell ⟨B,1,none⟩ (.int .i64 ((t:Int)+k))).drew.drew):=(((Only.refl B w).setCell rfl _).drew).drew;exact hO.cell (p:=⟨g,o+i,none⟩) gB) (by rw[HN.out];omega) (by rw[HN.out];omega)
 generalize hS:(ByteArray.mk ((bs.drop t).take k).toArray)=S at*;have HS:Hid (ByteArray.mk ((bs.drop t).take k).toArray=S):=hS;clear hS;have HCV:Hid (Sem.run Tryz.prog (convert 80 9 (Value.slice (if cap=t then some {block:=g,off:=o}else some {block:=g,off:=o+t}) (t+k-t) (cap-t))) ((w.setCell ⟨B,1,none⟩ (.int .i64 ((t:Int)+k))).drew.drew)= .ok (.string S) ((w.setCell ⟨B,1,none⟩ (.int .i64 ((t:Int)+k))).drew.drew)):=hcv;clear hcv;go_enter Tryz.func255,Tryz.ntmps255;go_wp2;go_region
 go_wp2;have hcv:=HCV.out;rw[show t+k-t=k by omega,if_neg hct]at hcv;go_region
 go_wp2;go_ret;have hO:Only B w ((w.setCell ⟨B,1,none⟩ (.int .i64 ((t:Int)+k))).drew.drew):=(((Only.refl B w).setCell rfl _).drew).drew;refine⟨ret_str rfl,HW.out.kept hO (by rw[HN.out];go_simp) (by go_simp) (by go_simp) (by go_simp) (fun j=>by go_simp),hO⟩
set_option maxHeartbeats 1000000
variable {ss:List ByteArray}{most:Int}
structure StrsAt (w:World)(v:Value)(ss:List ByteArray):Prop where
 form:(∃b o c,v= .slice (some ⟨b,o,none⟩) ss.length c∧b<w.heap.size∧∀(i:Nat) (s:ByteArray),ss[i]?=some s→w.cell? ⟨b,o+i,none⟩=some (.string s))∨(∃a,v= .slice a 0 0∧ss=[])
 small:ss.length≤140737488355328
 sizes:∀s∈ss,s.size≤maxLen
def keysB (ss:List ByteArray)(most:Int):Bool:=withinB 1 ss.length most&&ss.all keyB
theorem keysB_f1 (h:withinB 1 ss.length most=false):keysB ss most=false:=by simp only[keysB,h,Bool.false_and]
theorem keysB_f2 {k:Nat}{s:ByteArray}(h:ss[k]?=some s)(hf:keyB s=false):keysB ss most=false:=by
 have:ss.all keyB=false:=by
  rw[List.all_eq_false];exact⟨s,List.mem_of_getElem? h,by simp[hf]⟩
 simp only[keysB,this,Bool.and_false]
theorem keysB_t (h:withinB 1 ss.length most=true)(h2:(ss.take ss.length).all keyB=true):keysB ss most=true:=by
 rw[List.take_length]at h2;simp only[keysB,h,h2,Bool.and_self]
theorem keys_any (v:Value)(ss:List ByteArray)(most:Int)(w:World)(h:StrsAt w v ss):Calls Tryz.prog 75 #[v,.int .i64 most] w fun e w'=>e= .returned (.bool (keysB ss most))∧w'=w:=by
 obtain⟨hf,sm,hsz⟩:=h;have HSZ:Hid (∀s∈ss,s.size≤maxLen):=hsz;clear hsz;cases h1:withinB 1 ss.length most with
 |false=>
  have HK:Hid (keysB ss most=false):=keysB_f1 h1;rcases hf with⟨b,o,c,rfl,_,hc⟩|⟨a,rfl,rfl⟩
  ·clear hc;go_enter Tryz.func75,Tryz.ntmps75;go_wp2_with (go_at_call 77;refine(within_any _ _ _ _).mono ?_;rintro e w' ⟨rfl,rfl⟩)
   go_ret;exact⟨ret_bool HK.out.symm,rfl⟩
  ·go_enter Tryz.func75,Tryz.ntmps75;have h1':withinB 1 0 most=false:=h1;go_wp2_with (go_at_call 77;refine(within_any _ _ _ _).mono ?_;rintro e w' ⟨rfl,rfl⟩)
   go_ret;exact⟨ret_bool HK.out.symm,rfl⟩
 |true=>
  rcases hf with⟨b,o,c,rfl,_,hc⟩|⟨a,rfl,rfl⟩
  ·have HC:Hid (∀(i:Nat) (s:ByteArray),ss[i]?=some s→w.cell? ⟨b,o+i,none⟩=some (.string s)):=hc;clear hc;have HT:Hid ((ss.take ss.length).all keyB=true→keysB ss most=true):=keysB_t h1;have HF:Hid (∀k s,ss[k]?=some s→keyB s=false→keysB ss most=false):=fun k s a b=>keysB_f2 a b
   generalize hK:keysB ss most=KK at*;clear hK;generalize hn:ss.length=n at*;have HN:Hid (ss.length=n):=hn;clear hn;go_enter Tryz.func75,Tryz.ntmps75;go_wp2_with (go_at_call 77;refine(within_any _ _ _ _).mono ?_;rintro e w' ⟨rfl,rfl⟩)
   go_loop [14] (fun i=>∃k:Nat,k≤n∧i= .int .i64 k∧Hid ((ss.take k).all keyB=true)) (fun i=>n-(intOf i).toNat)
   case atStart=>exact⟨0,Nat.zero_le _,rfl,(by show _=_;simp)⟩
   case round=>
    obtain⟨k,hk,rfl,hall⟩:=hrel;by_cases hlt:k<n
    ·obtain⟨s,hs⟩:∃s,ss[k]?=some s:=⟨ss[k]'(by rw[HN.out];exact hlt),List.getElem?_eq_getElem _⟩
     have hcell:=HC.out k s hs;have hm:=HSZ.out s (List.mem_of_getElem? hs);have HS:Hid (ss[k]?=some s):=hs;clear hs;cases hb:keyB s with
     |true=>
      go_wp2_with (go_at_call 50;refine(key_any _ _ hm).mono ?_;rintro e w' ⟨rfl,rfl⟩)
      go_round
      case rel=>
       refine⟨k+1,by omega,by go_num,?_⟩;show _=_;rw[List.take_add_one,HS.out,List.all_append,hall.out];simp[hb]
      case measure=>simp[intOf];omega
     |false=>
      go_wp2_with (go_at_call 50;refine(key_any _ _ hm).mono ?_;rintro e w' ⟨rfl,rfl⟩)
      go_ret;exact⟨ret_bool (HF.out k s HS.out hb).symm,rfl⟩
    ·have:k=n:=by omega
     subst this;go_wp2;go_ret;exact⟨ret_bool (HT.out hall.out).symm,rfl⟩
  ·exfalso;simp[withinB]at h1
theorem value_any (s:ByteArray)(w:World)(hs:s.size≤maxLen):Calls Tryz.prog 76 #[.string s] w fun e w'=>e= .returned (.bool (decide ((s.size:Int)≤40)))∧w'=w:=by
 unfold maxLen at hs;go_enter Tryz.func76,Tryz.ntmps76;go_wp2;go_ret;exact⟨rfl,rfl⟩
set_option maxHeartbeats 1000000
theorem StrsAt.later {w w':World}{v:Value}{ss:List ByteArray}(h:StrsAt w v ss)(hb:Below w.heap.size w w'):StrsAt w' v ss:=by
 obtain⟨hf,sm,hsz⟩:=h;refine⟨?_,sm,hsz⟩;rcases hf with⟨b,o,c,rfl,hlt,hc⟩|⟨a,rfl,rfl⟩
 ·exact .inl ⟨b,o,c,rfl,Nat.lt_of_lt_of_le hlt hb.size,fun i s hs=>(hb.cell (p:=⟨b,o+i,none⟩) hlt).trans (hc i s hs)⟩
 ·exact .inr ⟨a,rfl,rfl⟩
theorem cmd_get (v:Value)(ss:List ByteArray)(val wd:ByteArray)(ft:Bool)(id:Int)(w:World)(h:StrsAt w v ss)(hv:val.size≤maxLen):Calls Tryz.prog 48 #[.agg #[.int .i64 1,v,.string val,.string wd,.bool ft,.int .i64 id]] w fun e w'=>e= .returned (.bool (keysB ss 4&&val.toList.isEmpty))∧Below w.heap.size w w':=by
 cases h1:keysB ss 4 with
 |true=>
  go_enter Tryz.func48,Tryz.ntmps48;go_wp2_with (first|(go_at_call 75;refine(keys_any v ss _ _ (h.later ((Below.refl _ _).alloc (Nat.le_refl _) _))).mono ?_;rintro e w' ⟨rfl,rfl⟩)|(go_at_call 76;refine(value_any _ _ hv).mono ?_;rintro e w' ⟨rfl,rfl⟩))
  go_ret;exact⟨ret_bool (Bool.true_and _).symm,((Below.refl _ _).alloc (Nat.le_refl _) _)⟩
 |false=>
  go_enter Tryz.func48,Tryz.ntmps48;go_wp2_with (first|(go_at_call 75;refine(keys_any v ss _ _ (h.later ((Below.refl _ _).alloc (Nat.le_refl _) _))).mono ?_;rintro e w' ⟨rfl,rfl⟩)|(go_at_call 76;refine(value_any _ _ hv).mono ?_;rintro e w' ⟨rfl,rfl⟩))
  go_ret;exact⟨ret_bool rfl,((Below.refl _ _).alloc (Nat.le_refl _) _)⟩
theorem cmd_set (v:Value)(ss:List ByteArray)(val wd:ByteArray)(ft:Bool)(id:Int)(w:World)(h:StrsAt w v ss)(hv:val.size≤maxLen):Calls Tryz.prog 48 #[.agg #[.int .i64 2,v,.string val,.string wd,.bool ft,.int .i64 id]] w fun e w'=>e= .returned (.bool (keysB ss 1&&decide ((val.size:Int)≤40)))∧Below w.heap.size w w':=by
 cases h1:keysB ss 1 with
 |true=>
  go_enter Tryz.func48,Tryz.ntmps48;go_wp2_with (first|(go_at_call 75;refine(keys_any v ss _ _ (h.later ((Below.refl _ _).alloc (Nat.le_refl _) _))).mono ?_;rintro e w' ⟨rfl,rfl⟩)|(go_at_call 76;refine(value_any _ _ hv).mono ?_;rintro e w' ⟨rfl,rfl⟩))
  go_ret;exact⟨ret_bool (Bool.true_and _).symm,((Below.refl _ _).alloc (Nat.le_refl _) _)⟩
 |false=>
  go_enter Tryz.func48,Tryz.ntmps48;go_wp2_with (first|(go_at_call 75;refine(keys_any v ss _ _ (h.later ((Below.refl _ _).alloc (Nat.le_refl _) _))).mono ?_;rintro e w' ⟨rfl,rfl⟩)|(go_at_call 76;refine(value_any _ _ hv).mono ?_;rintro e w' ⟨rfl,rfl⟩))
  go_ret;exact⟨ret_bool rfl,((Below.refl _ _).alloc (Nat.le_refl _) _)⟩
theorem cmd_del (v:Value)(ss:List ByteArray)(val wd:ByteArray)(ft:Bool)(id:Int)(w:World)(h:StrsAt w v ss)(hv:val.size≤maxLen):Calls Tryz.prog 48 #[.agg #[.int .i64 3,v,.string val,.string wd,.bool ft,.int .i64 id]] w fun e w'=>e= .returned (.bool (keysB ss 1&&val.toList.isEmpty))∧Below w.heap.size w w':=by
 cases h1:keysB ss 1 with
 |true=>
  go_enter Tryz.func48,Tryz.ntmps48;go_wp2_with (first|(go_at_call 75;refine(keys_any v ss _ _ (h.later ((Below.refl _ _).alloc (Nat.le_refl _) _))).mono ?_;rintro e w' ⟨rfl,rfl⟩)|(go_at_call 76;refine(value_any _ _ hv).mono ?_;rintro e w' ⟨rfl,rfl⟩))
  go_ret;exact⟨ret_bool (Bool.true_and _).symm,((Below.refl _ _).alloc (Nat.le_refl _) _)⟩
 |false=>
  go_enter Tryz.func48,Tryz.ntmps48;go_wp2_with (first|(go_at_call 75;refine(keys_any v ss _ _ (h.later ((Below.refl _ _).alloc (Nat.le_refl _) _))).mono ?_;rintro e w' ⟨rfl,rfl⟩)|(go_at_call 76;refine(value_any _ _ hv).mono ?_;rintro e w' ⟨rfl,rfl⟩))
  go_ret;exact⟨ret_bool rfl,((Below.refl _ _).alloc (Nat.le_refl _) _)⟩
theorem cmd_other (k:Int)(v:Value)(val wd:ByteArray)(ft:Bool)(id:Int)(w:World)(k1:k≠1)(k2:k≠2)(k3:k≠3):Calls Tryz.prog 48 #[.agg #[.int .i64 k,v,.string val,.string wd,.bool ft,.int .i64 id]] w fun e w'=>e= .returned (.bool false)∧Below w.heap.size w w':=by
 have g1:(k==1)=false:=by simpa using k1
 have g2:(k==2)=false:=by simpa using k2
 have g3:(k==3)=false:=by simpa using k3
 go_enter Tryz.func48,Tryz.ntmps48;go_wp2;go_ret;exact⟨rfl,((Below.refl _ _).alloc (Nat.le_refl _) _)⟩
set_option maxHeartbeats 1000000
set_option maxRecDepth 20000
theorem kindOf_get (w:World):Calls Tryz.prog 224 #[.string ⟨#[103,101,116]⟩] w fun e w'=>e= .returned (.int .i64 1)∧w'=w:=by
 go_enter Tryz.func224,Tryz.ntmps224;go_wp2;go_ret;exact⟨rfl,rfl⟩
theorem hide' {p:Prop}(h:p):Hid p:=h
theorem b8g:(keysB [⟨#[97]⟩] 4&&(ByteArray.mk #[]).toList.isEmpty)=true:=by decide+kernel
theorem bcell2 {W w1:World}(hb:Below W.heap.size W w1):(∀b o,b<W.heap.size→w1.cell? ⟨b,o,none⟩=W.cell? ⟨b,o,none⟩)∧(∀b o,b<W.heap.size→w1.frozen? ⟨b,o,none⟩=W.frozen? ⟨b,o,none⟩):=
 ⟨fun b o h=>hb.cell (p:=⟨b,o,none⟩) h,fun b o h=>hb.frozen (p:=⟨b,o,none⟩) h⟩
def exStep (b c:Nat):Value:= .agg #[.int .i64 1,.slice (some ⟨b,0,none⟩) 1 c,.string ⟨#[]⟩,.string ⟨#[]⟩,.bool false,.int .i64 0,.int .i64 15,.bool false]
theorem readTexts_ex (T:Nat)(w:World)(hT:T<w.heap.size)(h0:w.cell? ⟨T,0,none⟩=some (.string ⟨#[103,101,116]⟩))(h1:w.cell? ⟨T,1,none⟩=some (.string ⟨#[97]⟩)):Calls Tryz.prog 256 #[.slice (some ⟨T,0,none⟩) 2 5,.int .i64 15] w fun e w'=>(∃b c,e= .returned (exStep b c)∧w.heap.size≤b∧b<w'.heap.size∧w'.cell? ⟨b,0,none⟩=some (.string ⟨#[97]⟩))∧Below w.heap.size w w':=by
 go_enter Tryz.func256,Tryz.ntmps256;go_wp2_with (go_at_call 224;refine(kindOf_get _).mono ?_;rintro e w' ⟨rfl,rfl⟩)
 generalize (Question.appendCap 1 0 9).cut (w.tape w.drawn (Question.appendCap 1 0 9))=C;generalize hZ:(#[Value.string ⟨#[97]⟩]++Builtin.zeroCells #[Value.string ⟨#[]⟩] (C-1))=Z;have hZ0:Z[0]?=some (.string ⟨#[97]⟩):=by rw[←hZ,Array.getElem?_append_left (by decide)];rfl
 have HZ:Hid (Z[0]?=some (.string ⟨#[97]⟩)):=hZ0;clear hZ hZ0;generalize hW:(((w.alloc (Obj.cells #[Value.int IntKind.i64 0,Value.slice none 0 0,Value.string {data:=#[]},Value.string {data:=#[]},Value.bool false,Value.int IntKind.i64 0,Value.int IntKind.i64 0,Value.bool false] 255)).alloc (Obj.cells #[Value.int IntKind.i64 1,Value.slice (some {block:=w.heap.size+1+1,off:=0}) 1 C,Value.string {data:=#[]},Value.string {data:=#[]},Value.bool false,Value.int IntKind.i64 0] 36)).alloc (Obj.cells Z 9)).drew=W;have HWW:=hide' hW;clear hW;have hs:W.heap.size=w.heap.size+3:=by rw[←HWW.out];simp
 have hBW:Below w.heap.size w W:=by rw[←HWW.out];exact((((Below.refl _ _).alloc (Nat.le_refl _) _).alloc (by simp) _).alloc (by simp;omega) _).drew
 have hz:W.cell? ⟨w.heap.size+1+1,0,none⟩=some (.string ⟨#[97]⟩):=by
  rw[←HWW.out];have:=HZ.out;go_simp
 have r0:W.cell? ⟨w.heap.size,0,none⟩=some (.int .i64 0):=by rw[←HWW.out];go_simp
 have r1:W.cell? ⟨w.heap.size,1,none⟩=some (.slice none 0 0):=by rw[←HWW.out];go_simp
 have r2:W.cell? ⟨w.heap.size,2,none⟩=some (.string ⟨#[]⟩):=by rw[←HWW.out];go_simp
 have r3:W.cell? ⟨w.heap.size,3,none⟩=some (.string ⟨#[]⟩):=by rw[←HWW.out];go_simp
 have r4:W.cell? ⟨w.heap.size,4,none⟩=some (.bool false):=by rw[←HWW.out];go_simp
 have r5:W.cell? ⟨w.heap.size,5,none⟩=some (.int .i64 0):=by rw[←HWW.out];go_simp
 have r6:W.cell? ⟨w.heap.size,6,none⟩=some (.int .i64 0):=by rw[←HWW.out];go_simp
 have r7:W.cell? ⟨w.heap.size,7,none⟩=some (.bool false):=by rw[←HWW.out];go_simp
 have rf:∀j,W.frozen? ⟨w.heap.size,j,none⟩=false:=by intro j;rw[←HWW.out];go_simp
 have k0:W.cell? ⟨w.heap.size+1,0,none⟩=some (.int .i64 1):=by rw[←HWW.out];go_simp
 have k1:W.cell? ⟨w.heap.size+1,1,none⟩=some (.slice (some ⟨w.heap.size+1+1,0,none⟩) 1 C):=by rw[←HWW.out];go_simp
 have k2:W.cell? ⟨w.heap.size+1,2,none⟩=some (.string ⟨#[]⟩):=by rw[←HWW.out];go_simp
 have k3:W.cell? ⟨w.heap.size+1,3,none⟩=some (.string ⟨#[]⟩):=by rw[←HWW.out];go_simp
 have k4:W.cell? ⟨w.heap.size+1,4,none⟩=some (.bool false):=by rw[←HWW.out];go_simp
 have k5:W.cell? ⟨w.heap.size+1,5,none⟩=some (.int .i64 0):=by rw[←HWW.out];go_simp
 have hS:StrsAt W (.slice (some ⟨w.heap.size+1+1,0,none⟩) 1 C) [⟨#[97]⟩]:=⟨.inl ⟨_,0,C,rfl,by omega,fun i s hs=>by
  match i,hs with
  |0,hs=>simp at hs;subst hs;exact hz⟩,by simp,by decide⟩
 refine(cmd_get _ [⟨#[97]⟩] _ _ _ _ _ hS (by decide)).mono ?_;rintro e w1 ⟨rfl,hb1⟩;obtain⟨hc,hf⟩:=bcell2 hb1;have hz1:w.heap.size<W.heap.size:=by omega
 have hz2:w.heap.size+1<W.heap.size:=by omega
 rw[b8g];go_wp2;have hs1:=hb1.size;refine bodyPost_ret (v:=exStep (w.heap.size+1+1) C) (by simp[results,Tryz.results256,go_sem,exStep,hc,hz1,r0,r1,r2,r3,r4,r5,r6,r7]) rfl ⟨⟨_,_,rfl,by omega,?_,?_⟩,?_⟩
 ·simp;omega
 ·go_simp
 ·have q:=hBW.trans (hb1.mono (by omega));exact(((((((q.setCell (p:=⟨w.heap.size,0,none⟩) (Nat.le_refl _) _).setCell (p:=⟨w.heap.size,1,none⟩) (Nat.le_refl _) _).setCell (p:=⟨w.heap.size,2,none⟩) (Nat.le_refl _) _).setCell (p:=⟨w.heap.size,3,none⟩) (Nat.le_refl _) _).setCell (p:=⟨w.heap.size,4,none⟩) (Nat.le_refl _) _).setCell (p:=⟨w.heap.size,5,none⟩) (Nat.le_refl _) _).setCell (p:=⟨w.heap.size,6,none⟩) (Nat.le_refl _) _).setCell (p:=⟨w.heap.size,7,none⟩) (Nat.le_refl _) _
set_option maxHeartbeats 2000000
set_option maxRecDepth 20000
variable {w w0:World}{b o B g cap t R T:Nat}{cs ts:Array Value}{f:Nat×Nat}{bs:List UInt8}
theorem blkCell {t:TypeId}(h:w.heap[b]?=some (.cells cs t f))(i:Nat):w.cell? ⟨b,i,none⟩=cs[i]?:=by
 simp[World.cell?,h]
theorem blkFree {t:TypeId}(h:w.heap[b]?=some (.cells cs t (0,0)))(i:Nat):w.frozen? ⟨b,i,none⟩=false:=by
 simp[World.frozen?,h]
theorem blkLt {o:Obj}(h:w.heap[b]?=some o):b<w.heap.size:=(Array.getElem?_eq_some_iff.1 h).1
theorem blkNew (w:World)(o:Obj):(w.alloc o).heap[w.heap.size]?=some o:=by
 show(w.heap.push o)[w.heap.size]?=some o;exact Array.getElem?_push_size
theorem blkSet {i:Nat}{t:TypeId}(h:w.heap[b]?=some (.cells cs t f))(v:Value):(w.setCell ⟨b,i,none⟩ v).heap[b]?=some (.cells (cs.setIfInBounds i v) t f):=by
 have hlt:=blkLt h;have he:w.heap[b]= .cells cs t f:=(Array.getElem?_eq_some_iff.1 h).2;simp[World.setCell,Array.getElem_modify,hlt,he]
theorem WalkAt.alloc (h:WalkAt w B g o cap bs t)(ob:Obj)(hB:B<w.heap.size)(hg:g<w.heap.size):WalkAt (w.alloc ob) B g o cap bs t:=by
 have k:∀b i,b<w.heap.size→(w.alloc ob).cell? ⟨b,i,none⟩=w.cell? ⟨b,i,none⟩:=fun b i hb=>World.cell?_of_block (w:=w) (Below.heap_alloc w ob b hb)
 have f:∀b i,b<w.heap.size→(w.alloc ob).frozen? ⟨b,i,none⟩=w.frozen? ⟨b,i,none⟩:=fun b i hb=>World.frozen?_of_block (w:=w) (Below.heap_alloc w ob b hb)
 exact⟨(k _ _ hB).trans h.c0,(k _ _ hB).trans h.c1,(k _ _ hB).trans h.c2,(k _ _ hB).trans h.c3,(f _ _ hB).trans h.f1,(f _ _ hB).trans h.f2,(f _ _ hB).trans h.f3,h.gB,h.small,fun i b hi=>(k _ _ hg).trans (h.by_ i b hi)⟩
theorem WalkAt.set (h:WalkAt w B g o cap bs t)(T i:Nat)(v:Value)(hB:T≠B)(hg:T≠g):WalkAt (w.setCell ⟨T,i,none⟩ v) B g o cap bs t:=by
 have k:∀b j,b≠T→(w.setCell ⟨T,i,none⟩ v).cell? ⟨b,j,none⟩=w.cell? ⟨b,j,none⟩:=fun b j hb=>World.cell?_of_block (w:=w) (Below.heap_setCell w ⟨T,i,none⟩ v b hb)
 have f:∀b j,b≠T→(w.setCell ⟨T,i,none⟩ v).frozen? ⟨b,j,none⟩=w.frozen? ⟨b,j,none⟩:=fun b j hb=>World.frozen?_of_block (w:=w) (Below.heap_setCell w ⟨T,i,none⟩ v b hb)
 exact⟨(k _ _ hB.symm).trans h.c0,(k _ _ hB.symm).trans h.c1,(k _ _ hB.symm).trans h.c2,(k _ _ hB.symm).trans h.c3,(f _ _ hB.symm).trans h.f1,(f _ _ hB.symm).trans h.f2,(f _ _ hB.symm).trans h.f3,h.gB,h.small,fun i b hi=>(k _ _ hg.symm).trans (h.by_ i b hi)⟩
def exL:List UInt8:=[42,50,10,36,51,10,103,101,116,10,36,49,10,97,10]
def zStep:Array Value:=#[.int .i64 0,.slice none 0 0,.string ⟨#[]⟩,.string ⟨#[]⟩,.bool false,.int .i64 0,.int .i64 0,.bool false]
structure LR (w0 w:World)(g o cap t R B T:Nat)(ts:Array Value):Prop where
 W:WalkAt w B g o cap exL t
 hR:w.heap[R]?=some (.cells zStep 255 (0,0))
 hT:w.heap[T]?=some (.cells ts 9 (0,0))
 bel:Below w0.heap.size w0 w
 hB:B<w.heap.size
 hg:g<w0.heap.size
 h1:w0.heap.size≤R
 h2:R<B
 h3:B<T
theorem LR.only {w':World}{t':Nat}(h:LR w0 w g o cap t R B T ts)(k:Only B w w')(W':WalkAt w' B g o cap exL t'):LR w0 w' g o cap t' R B T ts:=
 ⟨W',(k.block R (by have:=h.h2;omega)).trans h.hR,(k.block T (by have:=h.h3;omega)).trans h.hT,h.bel.trans (k.below.mono (by have:=h.h1;have:=h.h2;omega)),by rw[k.size];exact h.hB,h.hg,h.h1,h.h2,h.h3⟩
theorem LR.alloc (h:LR w0 w g o cap t R B T ts)(ob:Obj):LR w0 (w.alloc ob) g o cap t R B T ts:=
 ⟨h.W.alloc ob h.hB (Nat.lt_of_lt_of_le h.hg h.bel.size),(Below.heap_alloc w ob R (blkLt h.hR)).trans h.hR,(Below.heap_alloc w ob T (blkLt h.hT)).trans h.hT,h.bel.alloc h.bel.size ob,by have:=h.hB;simp;omega,h.hg,h.h1,h.h2,h.h3⟩
theorem LR.set (h:LR w0 w g o cap t R B T ts)(i:Nat)(v:Value):LR w0 (w.setCell ⟨T,i,none⟩ v) g o cap t R B T (ts.setIfInBounds i v):=
 have:=h.h1
 have:=h.h2
 have:=h.h3
 have:=h.hg
 ⟨h.W.set T i v (by omega) (by omega),(Below.heap_setCell w ⟨T,i,none⟩ v R (by show R≠T;omega)).trans h.hR,blkSet h.hT v,h.bel.setCell (p:=⟨T,i,none⟩) (by show w0.heap.size≤T;omega) v,by simp;exact h.hB,h.hg,h.h1,h.h2,h.h3⟩
theorem hmk (w:World):(Instr.makeSlice 34 (.int .i64 0) (.int .i64 5)).run Tryz.prog w= .ok (.slice (some ⟨w.heap.size,0,none⟩) 0 5) (w.alloc (.cells #[.string ⟨#[]⟩,.string ⟨#[]⟩,.string ⟨#[]⟩,.string ⟨#[]⟩,.string ⟨#[]⟩] 9)):=by kernel_rfl
theorem read_ex (w:World)(g o cap:Nat)(hg:g<w.heap.size)(hcap:15≤cap)(hb:∀(i:Nat) (b:UInt8),exL[i]?=some b→w.cell? ⟨g,o+i,none⟩=some (.int .u8 (b.toNat:Int))):Calls Tryz.prog 251 #[.agg #[],.slice (some ⟨g,o,none⟩) 15 cap] w fun e w'=>(∃b c,e= .returned (exStep b c)∧w.heap.size≤b∧b<w'.heap.size∧w'.cell? ⟨b,0,none⟩=some (.string ⟨#[97]⟩))∧Below w.heap.size w w':=by
 have HB:=hide' hb;clear hb;have hmk:=hmk;go_enter Tryz.func251,Tryz.ntmps251;go_wp2_with fail
 go_at_call 253;refine(expect_ok _ _ g o cap exL 0 42 ⟨by go_simp;rfl,by go_simp,by go_simp,by go_simp,by go_simp,by go_simp,by go_simp,by omega,by decide,fun i b hi=>?_⟩ rfl).mono ?_
 ·have q:∀a b c,Below w.heap.size w (((w.alloc a).alloc b).alloc c):=fun a b c=>((((Below.refl _ _).alloc (Nat.le_refl _) _).alloc (by simp) _).alloc (by simp;omega) _)
  exact((q _ _ _).cell (p:=⟨g,o+i,none⟩) hg).trans (HB.out i b hi)
 rintro e w1 ⟨rfl,W1,O1⟩;have hs1:=O1.size;simp at hs1;have hR1:w1.heap[w.heap.size+1]?=some (.cells zStep 255 (0,0)):=by
  rw[O1.block _ (by omega),Below.heap_alloc _ _ _ (by simp)];have:=blkNew (w.alloc (.cells #[] 162)) (.cells zStep 255 (0,0));rw[World.size_alloc]at this;exact this
 have hBel1:Below w.heap.size w w1:=((((Below.refl _ _).alloc (Nat.le_refl _) _).alloc (by simp) _).alloc (by simp;omega) _).trans (O1.below.mono (by omega));clear O1;go_wp2_with fail
 go_at_call 254;refine(count1_ok _ _ g o cap exL 1 50 1 5 W1 rfl rfl (by decide) (by decide) (by decide) (by decide)).mono ?_;rintro e w2 ⟨rfl,W2,O2⟩;have hs2:=O2.size;have hR2:=(O2.block (w.heap.size+1) (by omega)).trans hR1;have hBel2:=hBel1.trans (O2.below.mono (by omega));clear O2 hR1 W1 hBel1;rw[show((50:UInt8).toNat:Int)-48=2 by decide];have hsz:w2.heap.size=w.heap.size+3:=by omega
 go_wp2;generalize hW3:w2.alloc (Obj.cells #[Value.string {data:=#[]},Value.string {data:=#[]},Value.string {data:=#[]},Value.string {data:=#[]},Value.string {data:=#[]}] 9)=w3;have L3:LR w w3 g o cap 3 (w.heap.size+1) (w.heap.size+1+1) (w.heap.size+1+1+1) #[.string ⟨#[]⟩,.string ⟨#[]⟩,.string ⟨#[]⟩,.string ⟨#[]⟩,.string ⟨#[]⟩]:=by
  rw[←hW3];refine⟨W2.alloc _ (by omega) (by omega),(Below.heap_alloc w2 _ _ (by omega)).trans hR2,?_,hBel2.alloc hBel2.size _,by simp;omega,hg,by omega,by omega,by omega⟩;have:=blkNew w2 (.cells #[.string ⟨#[]⟩,.string ⟨#[]⟩,.string ⟨#[]⟩,.string ⟨#[]⟩,.string ⟨#[]⟩] 9);rw[hsz]at this;exact this
 clear hW3 W2 hR2 hBel2 hs2 hsz hs1;clear w2;clear w1;refine wp_loop_rounds 3 ?_;rw[rounds_succ];go_wp2_with fail
 go_at_call 253;refine(expect_ok _ _ g o cap exL 3 36 L3.W rfl).mono ?_;rintro e w4 ⟨rfl,W4,O4⟩;have L4:=L3.only O4 W4;clear L3 O4 W4;clear w3;go_wp2_with fail
 go_at_call 254;refine(count1_ok _ _ g o cap exL 4 51 0 40 L4.W rfl rfl (by decide) (by decide) (by decide) (by decide)).mono ?_;rintro e w5 ⟨rfl,W5,O5⟩;have L5:=L4.only O5 W5;clear L4 O5 W5;clear w4;rw[show((51:UInt8).toNat:Int)-48=3 by decide];go_wp2_with fail
 go_at_call 255;refine(text_ok _ _ g o cap exL 6 3 L5.W (by decide) hcap (by omega)).mono ?_;rintro e w6 ⟨rfl,W6,O6⟩;have L6:=L5.only O6 W6;clear L5 O6 W6;clear w5;rw[show(ByteArray.mk ((exL.drop 6).take 3).toArray)=⟨#[103,101,116]⟩by decide+kernel];have t0:w6.cell? ⟨w.heap.size+1+1+1,0,none⟩=some (.string ⟨#[]⟩):=blkCell L6.hT 0;have tf:w6.frozen? ⟨w.heap.size+1+1+1,0,none⟩=false:=blkFree L6.hT 0;have ts:=blkLt L6.hT;have HL:=hide' L6;clear L6;go_wp2_with fail
 go_at_call 253;have L7:=(HL.out.set 0 (.string ⟨#[103,101,116]⟩)).alloc (Obj.cells #[Value.string {data:=#[103,101,116]}] 9);refine(expect_ok _ _ g o cap exL 9 10 L7.W rfl).mono ?_;rintro e w8 ⟨rfl,W8,O8⟩;have L8:=L7.only O8 W8;clear L7 O8 W8 HL t0 tf ts;go_wp2;rw[rounds_succ];go_wp2_with fail
 go_at_call 253;refine(expect_ok _ _ g o cap exL 10 36 L8.W rfl).mono ?_;rintro e w9 ⟨rfl,W9,O9⟩;have L9:=L8.only O9 W9;clear L8 O9 W9;clear w8;go_wp2_with fail
 go_at_call 254;refine(count1_ok _ _ g o cap exL 11 49 0 40 L9.W rfl rfl (by decide) (by decide) (by decide) (by decide)).mono ?_;rintro e w10 ⟨rfl,W10,O10⟩;have L10:=L9.only O10 W10;clear L9 O10 W10;clear w9;rw[show((49:UInt8).toNat:Int)-48=1 by decide];go_wp2_with fail
 go_at_call 255;refine(text_ok _ _ g o cap exL 13 1 L10.W (by decide) hcap (by omega)).mono ?_;rintro e w11 ⟨rfl,W11,O11⟩;have L11:=L10.only O11 W11;clear L10 O11 W11;clear w10;rw[show(ByteArray.mk ((exL.drop 13).take 1).toArray)=⟨#[97]⟩by decide+kernel];have t0:w11.cell? ⟨w.heap.size+1+1+1,1,none⟩=some (.string ⟨#[]⟩):=blkCell L11.hT 1;have tf:w11.frozen? ⟨w.heap.size+1+1+1,1,none⟩=false:=blkFree L11.hT 1;have ts:=blkLt L11.hT;have HL:=hide' L11;clear L11;go_wp2_with fail
 go_at_call 253;have L12:=(HL.out.set 1 (.string ⟨#[97]⟩)).alloc (Obj.cells #[Value.string {data:=#[97]}] 9);refine(expect_ok _ _ g o cap exL 14 10 L12.W rfl).mono ?_;rintro e w13 ⟨rfl,W13,O13⟩;have L13:=L12.only O13 W13;clear L12 O13 W13 HL t0 tf ts;have d0:=blkCell L13.hT 0;have d1:=blkCell L13.hT 1;have e1:=L13.W.c1;have e2:=L13.W.c2;have e3:=L13.W.c3;have ts:=blkLt L13.hT;have HL:=hide' L13;clear L13;go_wp2;rw[rounds_succ];go_wp2_with fail
 go_at_call 256;refine(readTexts_ex _ _ ts (by rw[d0];rfl) (by rw[d1];rfl)).mono ?_;rintro e w14 ⟨⟨b,c,rfl,hb1,hb2,hb3⟩,hB14⟩;have hR14:=(hB14.block (w.heap.size+1) (blkLt HL.out.hR)).trans HL.out.hR;have hBel:=HL.out.bel.trans (hB14.mono HL.out.bel.size);have hbw:w.heap.size≤b:=Nat.le_trans HL.out.bel.size hb1;have hne:b≠w.heap.size+1:=by have:=blkLt HL.out.hR;omega
 clear hB14 HL d0 d1 e1 e2 e3 ts;have r0:=blkCell hR14 0;have r1:=blkCell hR14 1;have r2:=blkCell hR14 2;have r3:=blkCell hR14 3;have r4:=blkCell hR14 4;have r5:=blkCell hR14 5;have r6:=blkCell hR14 6;have r7:=blkCell hR14 7;have rf:=blkFree hR14;have HR:=hide' hR14;clear hR14;simp[zStep]at r0 r1 r2 r3 r4 r5 r6 r7;unfold exStep;go_wp2;refine bodyPost_ret (v:=exStep b c) (by simp[results,Tryz.results251,go_sem,exStep,r0,r1,r2,r3,r4,r5,r6,r7]) rfl ⟨⟨_,_,rfl,hbw,?_,?_⟩,?_⟩
 ·simpa using hb2
 ·go_simp
 ·have hle:w.heap.size≤w.heap.size+1:=by omega
  exact(((((((hBel.setCell (p:=⟨w.heap.size+1,0,none⟩) hle _).setCell (p:=⟨w.heap.size+1,1,none⟩) hle _).setCell (p:=⟨w.heap.size+1,2,none⟩) hle _).setCell (p:=⟨w.heap.size+1,3,none⟩) hle _).setCell (p:=⟨w.heap.size+1,4,none⟩) hle _).setCell (p:=⟨w.heap.size+1,5,none⟩) hle _).setCell (p:=⟨w.heap.size+1,6,none⟩) hle _).setCell (p:=⟨w.heap.size+1,7,none⟩) hle _
end Go.Proofs.YtlonjggfnleolaaGreatDoor
