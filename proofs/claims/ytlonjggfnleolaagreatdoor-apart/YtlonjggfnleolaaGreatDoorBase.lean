import Derived.Test.YtlonjggfnleolaaGreatDoorRows
import Derived.WalkKit
import Derived.WalkSpells
import Derived.WalkLawsBesides
import Derived.OpenShut
namespace Go.Proofs.YtlonjggfnleolaaGreatDoor
open Go.RowKit
set_option linter.unusedVariables false
set_option maxHeartbeats 1000000
set_option maxRecDepth 100000
variable {a b n:Int}
theorem ret_int {k:IntKind}(h:a=b):Ending.returned (.int k a)= .returned (.int k b):=by rw[h]
theorem ret_bool {a b:Bool}(h:a=b):Ending.returned (.bool a)= .returned (.bool b):=by rw[h]
theorem ret_str {a b:ByteArray}(h:a=b):Ending.returned (.string a)= .returned (.string b):=by rw[h]
def withinB (a n b:Int):Bool:=decide (a≤n)&&decide (n≤b)
theorem withinB_t (h1:a≤n)(h2:n≤b):withinB a n b=true:=by simp[withinB,h1,h2]
theorem withinB_f (h1:¬(a≤n∧n≤b)):withinB a n b=false:=by
 simp only[withinB,Bool.and_eq_false_iff,decide_eq_false_iff_not];omega
theorem within_any (n a b:Int)(w:World):Calls Tryz.prog 77 #[.int .i64 n,.int .i64 a,.int .i64 b] w fun e w'=>e= .returned (.bool (withinB a n b))∧w'=w:=by
 by_cases h1:a≤n
 ·by_cases h2:n≤b
  ·go_enter Tryz.func77,Tryz.ntmps77;go_wp2;go_ret;exact⟨ret_bool (withinB_t h1 h2).symm,rfl⟩
  ·go_enter Tryz.func77,Tryz.ntmps77;go_wp2;go_ret;exact⟨ret_bool (by rw[withinB_f (by omega)]),rfl⟩
 ·go_enter Tryz.func77,Tryz.ntmps77;go_wp2;go_ret;exact⟨ret_bool (by rw[withinB_f (by omega)]),rfl⟩
def letB (b:UInt8):Bool:=decide (97≤(b.toNat:Int))&&decide ((b.toNat:Int)≤122)
def digB (b:UInt8):Bool:=decide (48≤(b.toNat:Int))&&decide ((b.toNat:Int)≤57)
def ldB (b:UInt8):Bool:=letB b || digB b
theorem letter_any (b:UInt8)(w:World):Calls Tryz.prog 80 #[.int .u8 b.toNat] w fun e w'=>e= .returned (.bool (letB b))∧w'=w:=by
 by_cases h1:97≤(b.toNat:Int)
 ·go_enter Tryz.func80,Tryz.ntmps80;go_wp2;go_ret;exact⟨by simp[letB,h1],rfl⟩
 ·have h1':decide (97≤(b.toNat:Int))=false:=by simpa using h1
  go_enter Tryz.func80,Tryz.ntmps80;go_wp2;go_ret;exact⟨ret_bool (by simp only[letB,h1',Bool.false_and]),rfl⟩
theorem digit_any (b:UInt8)(w:World):Calls Tryz.prog 81 #[.int .u8 b.toNat] w fun e w'=>e= .returned (.bool (digB b))∧w'=w:=by
 by_cases h1:48≤(b.toNat:Int)
 ·go_enter Tryz.func81,Tryz.ntmps81;go_wp2;go_ret;exact⟨by simp[digB,h1],rfl⟩
 ·have h1':decide (48≤(b.toNat:Int))=false:=by simpa using h1
  go_enter Tryz.func81,Tryz.ntmps81;go_wp2;go_ret;exact⟨ret_bool (by simp only[digB,h1',Bool.false_and]),rfl⟩
theorem key1_any (b:UInt8)(w:World):Calls Tryz.prog 79 #[.int .u8 b.toNat] w fun e w'=>e= .returned (.bool (ldB b))∧w'=w:=by
 by_cases h1:letB b=true
 ·go_enter Tryz.func79,Tryz.ntmps79;go_wp2_with (first|(go_at_call 80;refine(letter_any _ _).mono ?_;rintro e w' ⟨rfl,rfl⟩)|(go_at_call 81;refine(digit_any _ _).mono ?_;rintro e w' ⟨rfl,rfl⟩))
  go_ret;exact⟨ret_bool (by simp only[ldB,h1,Bool.true_or]),rfl⟩
 ·have h1':letB b=false:=by simpa using h1
  go_enter Tryz.func79,Tryz.ntmps79;go_wp2_with (first|(go_at_call 80;refine(letter_any _ _).mono ?_;rintro e w' ⟨rfl,rfl⟩)|(go_at_call 81;refine(digit_any _ _).mono ?_;rintro e w' ⟨rfl,rfl⟩))
  go_ret;exact⟨ret_bool (by simp only[ldB,h1',Bool.false_or]),rfl⟩
theorem take_snoc (s:ByteArray)(k:Nat)(h:k<s.size):s.data.toList.take (k+1)=s.data.toList.take k++[s[k]]:=by
 rw[List.take_succ_eq_append_getElem (by simpa using h)];rfl
def allLd (s:ByteArray):Bool:=s.data.toList.all ldB
theorem all_at {s:ByteArray}{k:Nat}{P:UInt8→Bool}(h:k<s.size)(hf:P s[k]=false):s.data.toList.all P=false:=by
 rw[List.all_eq_false];exact⟨s[k],by simp[ByteArray.getElem_eq_getElem_data],by simp[hf]⟩
theorem each_key (s:ByteArray)(w:World)(hs:s.size≤maxLen):Calls Tryz.prog 78 #[.string s,.func (.func 79) #[] #[]] w fun e w'=>e= .returned (.bool (allLd s))∧w'=w:=by
 unfold maxLen at hs;go_enter Tryz.func78,Tryz.ntmps78;go_wp2;go_loop [8] (fun i=>∃k:Nat,k≤s.size∧i= .int .i64 k∧(s.data.toList.take k).all ldB=true) (fun i=>s.size-(intOf i).toNat)
 case atStart=>exact⟨0,Nat.zero_le _,rfl,by simp⟩
 case round=>
  obtain⟨k,hk,rfl,hall⟩:=hrel;have HA:Hid ((s.data.toList.take k).all ldB=true):=hall;clear hall;by_cases hlt:k<s.size
  ·cases hb:ldB s[k]with
   |true=>
    go_wp2_with (go_at_call 79;refine(key1_any _ _).mono ?_;rintro e w' ⟨rfl,rfl⟩)
    go_round
    case rel=>exact⟨k+1,by omega,by go_num,by rw[take_snoc s k hlt];simp[HA.out,hb]⟩
    case measure=>simp[intOf];omega
   |false=>
    go_wp2_with (go_at_call 79;refine(key1_any _ _).mono ?_;rintro e w' ⟨rfl,rfl⟩)
    go_ret;exact⟨ret_bool (all_at hlt hb).symm,rfl⟩
  ·go_wp2;go_ret;exact⟨ret_bool (by rw[allLd,←HA.out,List.take_of_length_le (by simp;omega)]),rfl⟩
def keyB (s:ByteArray):Bool:=withinB 1 s.size 8&&allLd s
theorem key_any (s:ByteArray)(w:World)(hs:s.size≤maxLen):Calls Tryz.prog 50 #[.string s] w fun e w'=>e= .returned (.bool (keyB s))∧w'=w:=by
 have hs':=hs;unfold maxLen at hs;cases h1:withinB 1 s.size 8 with
 |true=>
  go_enter Tryz.func50,Tryz.ntmps50;go_wp2_with (first|(go_at_call 77;refine(within_any _ _ _ _).mono ?_;rintro e w' ⟨rfl,rfl⟩)|(go_at_call 78;refine(each_key _ _ hs').mono ?_;rintro e w' ⟨rfl,rfl⟩))
  go_ret;exact⟨ret_bool (by simp only[keyB,h1,Bool.true_and]),rfl⟩
 |false=>
  go_enter Tryz.func50,Tryz.ntmps50;go_wp2_with (first|(go_at_call 77;refine(within_any _ _ _ _).mono ?_;rintro e w' ⟨rfl,rfl⟩)|(go_at_call 78;refine(each_key _ _ hs').mono ?_;rintro e w' ⟨rfl,rfl⟩))
  go_ret;exact⟨ret_bool (by simp only[keyB,h1,Bool.false_and]),rfl⟩
def ringB (s p:Int):Bool:=withinB 1 s 4&&withinB 1 p 16
theorem ring_any (s p:Int)(w:World):Calls Tryz.prog 49 #[.int .i64 s,.int .i64 p] w fun e w'=>e= .returned (.bool (ringB s p))∧w'=w:=by
 cases h1:withinB 1 s 4 with
 |true=>
  go_enter Tryz.func49,Tryz.ntmps49;go_wp2_with (go_at_call 77;refine(within_any _ _ _ _).mono ?_;rintro e w' ⟨rfl,rfl⟩)
  go_ret;exact⟨ret_bool (by simp only[ringB,h1,Bool.true_and]),rfl⟩
 |false=>
  go_enter Tryz.func49,Tryz.ntmps49;go_wp2_with (go_at_call 77;refine(within_any _ _ _ _).mono ?_;rintro e w' ⟨rfl,rfl⟩)
  go_ret;exact⟨ret_bool (by simp only[ringB,h1,Bool.false_and]),rfl⟩
def hstep (h:Int)(b:UInt8):Int:=bits BinOp.xor IntKind.u32 h ((b.toNat:Int) % 4294967296)*16777619 % 4294967296
def hashTo (l:List UInt8):Int:=l.foldl hstep 2166136261
def num (l:List UInt8):Int:=hashTo l*16777619 % 4294967296
theorem num_bd (l:List UInt8):0≤num l∧num l<4294967296:=by unfold num;omega
theorem number_any (s:ByteArray)(w:World)(hs:s.size≤maxLen):Calls Tryz.prog 82 #[.string s] w fun e w'=>e= .returned (.int .u32 (num s.data.toList))∧w'=w:=by
 unfold maxLen at hs;go_enter Tryz.func82,Tryz.ntmps82;go_wp2;go_loop [3,7] (fun h i=>∃k:Nat,k≤s.size∧i= .int .i64 k∧h= .int .u32 (hashTo (s.data.toList.take k))) (fun _ i=>s.size-(intOf i).toNat)
 case atStart=>exact⟨0,Nat.zero_le _,rfl,rfl⟩
 case round=>
  obtain⟨k,hk,rfl,rfl⟩:=hrel;by_cases hlt:k<s.size
  ·go_wp2;go_round
   case rel=>exact⟨k+1,by omega,by go_num,by rw[take_snoc s k hlt];simp[hashTo,hstep]⟩
   case measure=>simp[intOf];omega
  ·go_wp2;go_ret;exact⟨ret_int (by rw[List.take_of_length_le (by simp;omega)];rfl),rfl⟩
def dec100 (n:Nat):ByteArray:=if n<10 then⟨#[UInt8.ofNat (48+n)]⟩else⟨#[UInt8.ofNat (48+n / 10),UInt8.ofNat (48+n % 10)]⟩
def digs36:ByteArray:=⟨#[48,49,50,51,52,53,54,55,56,57,97,98,99,100,101,102,103,104,105,106,107,108,109,110,111,112,113,114,115,116,117,118,119,120,121,122]⟩
def smallsB:ByteArray:=⟨#[48,48,48,49,48,50,48,51,48,52,48,53,48,54,48,55,48,56,48,57,49,48,49,49,49,50,49,51,49,52,49,53,49,54,49,55,49,56,49,57,50,48,50,49,50,50,50,51,50,52,50,53,50,54,50,55,50,56,50,57,51,48,51,49,51,50,51,51,51,52,51,53,51,54,51,55,51,56,51,57,52,48,52,49,52,50,52,51,52,52,52,53,52,54,52,55,52,56,52,57,53,48,53,49,53,50,53,51,53,52,53,53,53,54,53,55,53,56,53,57,54,48,54,49,54,50,54,51,54,52,54,53,54,54,54,55,54,56,54,57,55,48,55,49,55,50,55,51,55,52,55,53,55,54,55,55,55,56,55,57,56,48,56,49,56,50,56,51,56,52,56,53,56,54,56,55,56,56,56,57,57,48,57,49,57,50,57,51,57,52,57,53,57,54,57,55,57,56,57,57]⟩
theorem digs_at:∀n:Nat,n<10→digs36.extract n (n+1)=dec100 n:=by decide+kernel
theorem smalls_at':∀n:Nat,n<100→¬n<10→smallsB.extract (n*2) (n*2+2)=dec100 n:=by decide+kernel
theorem smalls_at (n:Nat)(h:¬n<10)(h2:n<100):smallsB.extract (n*2) (n*2+2)=dec100 n:=smalls_at' n h2 h
theorem small_any (n:Nat)(w:World)(hn:n<100):Calls Tryz.prog 176 #[.int .i64 n] w fun e w'=>e= .returned (.string (dec100 n))∧w'=w:=by
 by_cases h:n<10
 ·go_enter Tryz.func176,Tryz.ntmps176;go_wp2;go_ret;refine⟨ret_str ?_,rfl⟩;exact digs_at n h
 ·go_enter Tryz.func176,Tryz.ntmps176;go_wp2;go_ret;refine⟨ret_str ?_,rfl⟩;exact smalls_at n h hn
theorem formatInt_any (n:Nat)(w:World)(hn:n<100):Calls Tryz.prog 168 #[.int .i64 n,.int .i64 10] w fun e w'=>e= .returned (.string (dec100 n))∧w'=w:=by
 go_enter Tryz.func168,Tryz.ntmps168;go_wp2_with (go_at_call 176;refine(small_any _ _ hn).mono ?_;rintro e w' ⟨rfl,rfl⟩)
 go_ret;exact⟨rfl,rfl⟩
theorem itoa'_any (n:Nat)(w:World)(hn:n<100):Calls Tryz.prog 155 #[.int .i64 n] w fun e w'=>e= .returned (.string (dec100 n))∧w'=w:=by
 go_enter Tryz.func155,Tryz.ntmps155;go_wp2_with (go_at_call 168;refine(formatInt_any _ _ hn).mono ?_;rintro e w' ⟨rfl,rfl⟩)
 go_ret;exact⟨rfl,rfl⟩
theorem itoa_any (n:Nat)(w:World)(hn:n<100):Calls Tryz.prog 122 #[.int .i64 n] w fun e w'=>e= .returned (.string (dec100 n))∧w'=w:=by
 go_enter Tryz.func122,Tryz.ntmps122;go_wp2_with (go_at_call 155;refine(itoa'_any _ _ hn).mono ?_;rintro e w' ⟨rfl,rfl⟩)
 go_ret;exact⟨rfl,rfl⟩
theorem dec100_size (n:Nat):(dec100 n).size≤2:=by unfold dec100;split<;>simp[ByteArray.size]
end Go.Proofs.YtlonjggfnleolaaGreatDoor
