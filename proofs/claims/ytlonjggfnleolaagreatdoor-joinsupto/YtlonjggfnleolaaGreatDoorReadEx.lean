import Derived.Test.YtlonjggfnleolaaGreatDoorRows
import Derived.WalkKit
import Derived.WalkSpells
import Derived.WalkLawsBesides
import Derived.OpenShut
import Derived.Deep.QuietTactic
import Derived.BigQuiet
import Derived.RegionTactic
import Derived.BigRegion
import Derived.Laws.BytesArg
namespace Go.Proofs.YtlonjggfnleolaaGreatDoor
open Go.RowKit
set_option linter.unusedVariables false
set_option maxHeartbeats 1000000
set_option maxRecDepth 100000
variable {a b n:Int}
theorem ret_int {k:IntKind}(h:a=b):Ending.returned (.int k a)= .returned (.int k b):=by rw[h]
theorem ret_bool {a b:Bool}(h:a=b):Ending.returned (.bool a)= .returned (.bool b):=by rw[h]
theorem ret_str {a b:ByteArray}(h:a=b):Ending.returned (.string a)= .returned (.string b):=by rw[h]
def withinB (a n b:Int):Bool:=decide (a≤n)&&decide (n≤b)
theorem withinB_t (h1:a≤n)(h2:n≤b):withinB a n b=true:=by simp[withinB,h1,h2]
theorem withinB_f (h1:¬(a≤n∧n≤b)):withinB a n b=false:=by
 simp only[withinB,Bool.and_eq_false_iff,decide_eq_false_iff_not];omega
theorem within_any (n a b:Int)(w:World):Calls Tryz.prog 77 #[.int .i64 n,.int .i64 a,.int .i64 b] w fun e w'=>e= .returned (.bool (withinB a n b))∧w'=w:=by
 by_cases h1:a≤n
 ·by_cases h2:n≤b
  ·go_enter Tryz.func77,Tryz.ntmps77;go_wp2;go_ret;exact⟨ret_bool (withinB_t h1 h2).symm,rfl⟩
  ·go_enter Tryz.func77,Tryz.ntmps77;go_wp2;go_ret;exact⟨ret_bool (by rw[withinB_f (by omega)]),rfl⟩
 ·go_enter Tryz.func77,Tryz.ntmps77;go_wp2;go_ret;exact⟨ret_bool (by rw[withinB_f (by omega)]),rfl⟩
def letB (b:UInt8):Bool:=decide (97≤(b.toNat:Int))&&decide ((b.toNat:Int)≤122)
def digB (b:UInt8):Bool:=decide (48≤(b.toNat:Int))&&decide ((b.toNat:Int)≤57)
def ldB (b:UInt8):Bool:=letB b || digB b
theorem letter_any (b:UInt8)(w:World):Calls Tryz.prog 80 #[.int .u8 b.toNat] w fun e w'=>e= .returned (.bool (letB b))∧w'=w:=by
 by_cases h1:97≤(b.toNat:Int)
 ·go_enter Tryz.func80,Tryz.ntmps80;go_wp2;go_ret;exact⟨by simp[letB,h1],rfl⟩
 ·have h1':decide (97≤(b.toNat:Int))=false:=by simpa using h1
  go_enter Tryz.func80,Tryz.ntmps80;go_wp2;go_ret;exact⟨ret_bool (by simp only[letB,h1',Bool.false_and]),rfl⟩
theorem digit_any (b:UInt8)(w:World):Calls Tryz.prog 81 #[.int .u8 b.toNat] w fun e w'=>e= .returned (.bool (digB b))∧w'=w:=by
 by_cases h1:48≤(b.toNat:Int)
 ·go_enter Tryz.func81,Tryz.ntmps81;go_wp2;go_ret;exact⟨by simp[digB,h1],rfl⟩
 ·have h1':decide (48≤(b.toNat:Int))=false:=by simpa using h1
  go_enter Tryz.func81,Tryz.ntmps81;go_wp2;go_ret;exact⟨ret_bool (by simp only[digB,h1',Bool.false_and]),rfl⟩
theorem key1_any (b:UInt8)(w:World):Calls Tryz.prog 79 #[.int .u8 b.toNat] w fun e w'=>e= .returned (.bool (ldB b))∧w'=w:=by
 by_cases h1:letB b=true
 ·go_enter Tryz.func79,Tryz.ntmps79;go_wp2_with (first|(go_at_call 80;refine(letter_any _ _).mono ?_;rintro e w' ⟨rfl,rfl⟩)|(go_at_call 81;refine(digit_any _ _).mono ?_;rintro e w' ⟨rfl,rfl⟩))
  go_ret;exact⟨ret_bool (by simp only[ldB,h1,Bool.true_or]),rfl⟩
 ·have h1':letB b=false:=by simpa using h1
  go_enter Tryz.func79,Tryz.ntmps79;go_wp2_with (first|(go_at_call 80;refine(letter_any _ _).mono ?_;rintro e w' ⟨rfl,rfl⟩)|(go_at_call 81;refine(digit_any _ _).mono ?_;rintro e w' ⟨rfl,rfl⟩))
  go_ret;exact⟨ret_bool (by simp only[ldB,h1',Bool.false_or]),rfl⟩
theorem take_snoc (s:ByteArray)(k:Nat)(h:k<s.size):s.data.toList.take (k+1)=s.data.toList.take k++[s[k]]:=by
 rw[List.take_succ_eq_append_getElem (by simpa using h)];rfl
def allLd (s:ByteArray):Bool:=s.data.toList.all ldB
theorem all_at {s:ByteArray}{k:Nat}{P:UInt8→Bool}(h:k<s.size)(hf:P s[k]=false):s.data.toList.all P=false:=by
 rw[List.all_eq_false];exact⟨s[k],by simp[ByteArray.getElem_eq_getElem_data],by simp[hf]⟩
theorem each_key (s:ByteArray)(w:World)(hs:s.size≤maxLen):Calls Tryz.prog 78 #[.string s,.func (.func 79) #[] #[]] w fun e w'=>e= .returned (.bool (allLd s))∧w'=w:=by
 unfold maxLen at hs;go_enter Tryz.func78,Tryz.ntmps78;go_wp2;go_loop [8] (fun i=>∃k:Nat,k≤s.size∧i= .int .i64 k∧(s.data.toList.take k).all ldB=true) (fun i=>s.size-(intOf i).toNat)
 case atStart=>exact⟨0,Nat.zero_le _,rfl,by simp⟩
 case round=>
  obtain⟨k,hk,rfl,hall⟩:=hrel;have HA:Hid ((s.data.toList.take k).all ldB=true):=hall;clear hall;by_cases hlt:k<s.size
  ·cases hb:ldB s[k]with
   |true=>
    go_wp2_with (go_at_call 79;refine(key1_any _ _).mono ?_;rintro e w' ⟨rfl,rfl⟩)
    go_round
    case rel=>exact⟨k+1,by omega,by go_num,by rw[take_snoc s k hlt];simp[HA.out,hb]⟩
    case measure=>simp[intOf];omega
   |false=>
    go_wp2_with (go_at_call 79;refine(key1_any _ _).mono ?_;rintro e w' ⟨rfl,rfl⟩)
    go_ret;exact⟨ret_bool (all_at hlt hb).symm,rfl⟩
  ·go_wp2;go_ret;exact⟨ret_bool (by rw[allLd,←HA.out,List.take_of_length_le (by simp;omega)]),rfl⟩
def keyB (s:ByteArray):Bool:=withinB 1 s.size 8&&allLd s
theorem key_any (s:ByteArray)(w:World)(hs:s.size≤maxLen):Calls Tryz.prog 50 #[.string s] w fun e w'=>e= .returned (.bool (keyB s))∧w'=w:=by
 have hs':=hs;unfold maxLen at hs;cases h1:withinB 1 s.size 8 with
 |true=>
  go_enter Tryz.func50,Tryz.ntmps50;go_wp2_with (first|(go_at_call 77;refine(within_any _ _ _ _).mono ?_;rintro e w' ⟨rfl,rfl⟩)|(go_at_call 78;refine(each_key _ _ hs').mono ?_;rintro e w' ⟨rfl,rfl⟩))
  go_ret;exact⟨ret_bool (by simp only[keyB,h1,Bool.true_and]),rfl⟩
 |false=>
  go_enter Tryz.func50,Tryz.ntmps50;go_wp2_with (first|(go_at_call 77;refine(within_any _ _ _ _).mono ?_;rintro e w' ⟨rfl,rfl⟩)|(go_at_call 78;refine(each_key _ _ hs').mono ?_;rintro e w' ⟨rfl,rfl⟩))
  go_ret;exact⟨ret_bool (by simp only[keyB,h1,Bool.false_and]),rfl⟩
def ringB (s p:Int):Bool:=withinB 1 s 4&&withinB 1 p 16
theorem ring_any (s p:Int)(w:World):Calls Tryz.prog 49 #[.int .i64 s,.int .i64 p] w fun e w'=>e= .returned (.bool (ringB s p))∧w'=w:=by
 cases h1:withinB 1 s 4 with
 |true=>
  go_enter Tryz.func49,Tryz.ntmps49;go_wp2_with (go_at_call 77;refine(within_any _ _ _ _).mono ?_;rintro e w' ⟨rfl,rfl⟩)
  go_ret;exact⟨ret_bool (by simp only[ringB,h1,Bool.true_and]),rfl⟩
 |false=>
  go_enter Tryz.func49,Tryz.ntmps49;go_wp2_with (go_at_call 77;refine(within_any _ _ _ _).mono ?_;rintro e w' ⟨rfl,rfl⟩)
  go_ret;exact⟨ret_bool (by simp only[ringB,h1,Bool.false_and]),rfl⟩
def hstep (h:Int)(b:UInt8):Int:=bits BinOp.xor IntKind.u32 h ((b.toNat:Int) % 4294967296)*16777619 % 4294967296
def hashTo (l:List UInt8):Int:=l.foldl hstep 2166136261
def num (l:List UInt8):Int:=hashTo l*16777619 % 4294967296
theorem num_bd (l:List UInt8):0≤num l∧num l<4294967296:=by unfold num;omega
theorem number_any (s:ByteArray)(w:World)(hs:s.size≤maxLen):Calls Tryz.prog 82 #[.string s] w fun e w'=>e= .returned (.int .u32 (num s.data.toList))∧w'=w:=by
 unfold maxLen at hs;go_enter Tryz.func82,Tryz.ntmps82;go_wp2;go_loop [3,7] (fun h i=>∃k:Nat,k≤s.size∧i= .int .i64 k∧h= .int .u32 (hashTo (s.data.toList.take k))) (fun _ i=>s.size-(intOf i).toNat)
 case atStart=>exact⟨0,Nat.zero_le _,rfl,rfl⟩
 case round=>
  obtain⟨k,hk,rfl,rfl⟩:=hrel;by_cases hlt:k<s.size
  ·go_wp2;go_round
   case rel=>exact⟨k+1,by omega,by go_num,by rw[take_snoc s k hlt];simp[hashTo,hstep]⟩
   case measure=>simp[intOf];omega
  ·go_wp2;go_ret;exact⟨ret_int (by rw[List.take_of_length_le (by simp;omega)];rfl),rfl⟩
def dec100 (n:Nat):ByteArray:=if n<10 then⟨#[UInt8.ofNat (48+n)]⟩else⟨#[UInt8.ofNat (48+n / 10),UInt8.ofNat (48+n % 10)]⟩
def digs36:ByteArray:=⟨#[48,49,50,51,52,53,54,55,56,57,97,98,99,100,101,102,103,104,105,106,107,108,109,110,111,112,113,114,115,116,117,118,119,120,121,122]⟩
def smallsB:ByteArray:=⟨#[48,48,48,49,48,50,48,51,48,52,48,53,48,54,48,55,48,56,48,57,49,48,49,49,49,50,49,51,49,52,49,53,49,54,49,55,49,56,49,57,50,48,50,49,50,50,50,51,50,52,50,53,50,54,50,55,50,56,50,57,51,48,51,49,51,50,51,51,51,52,51,53,51,54,51,55,51,56,51,57,52,48,52,49,52,50,52,51,52,52,52,53,52,54,52,55,52,56,52,57,53,48,53,49,53,50,53,51,53,52,53,53,53,54,53,55,53,56,53,57,54,48,54,49,54,50,54,51,54,52,54,53,54,54,54,55,54,56,54,57,55,48,55,49,55,50,55,51,55,52,55,53,55,54,55,55,55,56,55,57,56,48,56,49,56,50,56,51,56,52,56,53,56,54,56,55,56,56,56,57,57,48,57,49,57,50,57,51,57,52,57,53,57,54,57,55,57,56,57,57]⟩
theorem digs_at:∀n:Nat,n<10→digs36.extract n (n+1)=dec100 n:=by decide+kernel
theorem smalls_at':∀n:Nat,n<100→¬n<10→smallsB.extract (n*2) (n*2+2)=dec100 n:=by decide+kernel
theorem smalls_at (n:Nat)(h:¬n<10)(h2:n<100):smallsB.extract (n*2) (n*2+2)=dec100 n:=smalls_at' n h2 h
theorem small_any (n:Nat)(w:World)(hn:n<100):Calls Tryz.prog 176 #[.int .i64 n] w fun e w'=>e= .returned (.string (dec100 n))∧w'=w:=by
 by_cases h:n<10
 ·go_enter Tryz.func176,Tryz.ntmps176;go_wp2;go_ret;refine⟨ret_str ?_,rfl⟩;exact digs_at n h
 ·go_enter Tryz.func176,Tryz.ntmps176;go_wp2;go_ret;refine⟨ret_str ?_,rfl⟩;exact smalls_at n h hn
theorem formatInt_any (n:Nat)(w:World)(hn:n<100):Calls Tryz.prog 168 #[.int .i64 n,.int .i64 10] w fun e w'=>e= .returned (.string (dec100 n))∧w'=w:=by
 go_enter Tryz.func168,Tryz.ntmps168;go_wp2_with (go_at_call 176;refine(small_any _ _ hn).mono ?_;rintro e w' ⟨rfl,rfl⟩)
 go_ret;exact⟨rfl,rfl⟩
theorem itoa'_any (n:Nat)(w:World)(hn:n<100):Calls Tryz.prog 155 #[.int .i64 n] w fun e w'=>e= .returned (.string (dec100 n))∧w'=w:=by
 go_enter Tryz.func155,Tryz.ntmps155;go_wp2_with (go_at_call 168;refine(formatInt_any _ _ hn).mono ?_;rintro e w' ⟨rfl,rfl⟩)
 go_ret;exact⟨rfl,rfl⟩
theorem itoa_any (n:Nat)(w:World)(hn:n<100):Calls Tryz.prog 122 #[.int .i64 n] w fun e w'=>e= .returned (.string (dec100 n))∧w'=w:=by
 go_enter Tryz.func122,Tryz.ntmps122;go_wp2_with (go_at_call 155;refine(itoa'_any _ _ hn).mono ?_;rintro e w' ⟨rfl,rfl⟩)
 go_ret;exact⟨rfl,rfl⟩
theorem dec100_size (n:Nat):(dec100 n).size≤2:=by unfold dec100;split<;>simp[ByteArray.size]
variable {B:Nat}{a w w':World}{p:Addr}
structure Only (B:Nat)(w w':World):Prop where
 os:w'.os=w.os
 tape:w'.tape=w.tape
 output:w'.output=w.output
 size:w'.heap.size=w.heap.size
 block:∀k,k≠B→w'.heap[k]?=w.heap[k]?
theorem Only.refl (B:Nat)(w:World):Only B w w:=⟨rfl,rfl,rfl,rfl,fun _ _=>rfl⟩
theorem Only.trans {b c:World}(h:Only B a b)(k:Only B b c):Only B a c:=
 ⟨k.os.trans h.os,k.tape.trans h.tape,k.output.trans h.output,k.size.trans h.size,fun i hi=>(k.block i hi).trans (h.block i hi)⟩
theorem Only.drew (h:Only B a w):Only B a w.drew:=⟨h.os,h.tape,h.output,h.size,h.block⟩
theorem Only.setCell (h:Only B a w)(hp:p.block=B)(u:Value):Only B a (w.setCell p u):=
 h.trans ⟨by simp[World.setCell],by simp[World.setCell],by simp[World.setCell],by simp,fun k hk=>Below.heap_setCell w p u k (by omega)⟩
theorem Only.below (h:Only B w w'):Below B w w':=⟨h.os,h.tape,h.output,Nat.le_of_eq h.size.symm,fun k hk=>h.block k (by omega)⟩
theorem Only.cell (h:Only B w w')(hp:p.block≠B):w'.cell? p=w.cell? p:=World.cell?_of_block (w:=w) (h.block p.block hp)
theorem strOfNums_bytes (l:List UInt8):strOfNums (l.map fun b=>(b.toNat:Int))=⟨l.toArray⟩:=by
 unfold strOfNums;rw[List.map_map];congr 1;congr 1;conv=>rhs;rw[←List.map_id l]
 apply List.map_congr_left;intro x _;simp
set_option maxHeartbeats 1000000
variable {ss:List ByteArray}{most:Int}
structure StrsAt (w:World)(v:Value)(ss:List ByteArray):Prop where
 form:(∃b o c,v= .slice (some ⟨b,o,none⟩) ss.length c∧b<w.heap.size∧∀(i:Nat) (s:ByteArray),ss[i]?=some s→w.cell? ⟨b,o+i,none⟩=some (.string s))∨(∃a,v= .slice a 0 0∧ss=[])
 small:ss.length≤140737488355328
 sizes:∀s∈ss,s.size≤maxLen
def keysB (ss:List ByteArray)(most:Int):Bool:=withinB 1 ss.length most&&ss.all keyB
theorem keysB_f1 (h:withinB 1 ss.length most=false):keysB ss most=false:=by simp only[keysB,h,Bool.false_and]
theorem keysB_f2 {k:Nat}{s:ByteArray}(h:ss[k]?=some s)(hf:keyB s=false):keysB ss most=false:=by
 have:ss.all keyB=false:=by
  rw[List.all_eq_false];exact⟨s,List.mem_of_getElem? h,by simp[hf]⟩
 simp only[keysB,this,Bool.and_false]
theorem keysB_t (h:withinB 1 ss.length most=true)(h2:(ss.take ss.length).all keyB=true):keysB ss most=true:=by
 rw[List.take_length]at h2;simp only[keysB,h,h2,Bool.and_self]
theorem keys_any (v:Value)(ss:List ByteArray)(most:Int)(w:World)(h:StrsAt w v ss):Calls Tryz.prog 75 #[v,.int .i64 most] w fun e w'=>e= .returned (.bool (keysB ss most))∧w'=w:=by
 obtain⟨hf,sm,hsz⟩:=h;have HSZ:Hid (∀s∈ss,s.size≤maxLen):=hsz;clear hsz;cases h1:withinB 1 ss.length most with
 |false=>
  have HK:Hid (keysB ss most=false):=keysB_f1 h1;rcases hf with⟨b,o,c,rfl,_,hc⟩|⟨a,rfl,rfl⟩
  ·clear hc;go_enter Tryz.func75,Tryz.ntmps75;go_wp2_with (go_at_call 77;refine(within_any _ _ _ _).mono ?_;rintro e w' ⟨rfl,rfl⟩)
   go_ret;exact⟨ret_bool HK.out.symm,rfl⟩
  ·go_enter Tryz.func75,Tryz.ntmps75;have h1':withinB 1 0 most=false:=h1;go_wp2_with (go_at_call 77;refine(within_any _ _ _ _).mono ?_;rintro e w' ⟨rfl,rfl⟩)
   go_ret;exact⟨ret_bool HK.out.symm,rfl⟩
 |true=>
  rcases hf with⟨b,o,c,rfl,_,hc⟩|⟨a,rfl,rfl⟩
  ·have HC:Hid (∀(i:Nat) (s:ByteArray),ss[i]?=some s→w.cell? ⟨b,o+i,none⟩=some (.string s)):=hc;clear hc;have HT:Hid ((ss.take ss.length).all keyB=true→keysB ss most=true):=keysB_t h1;have HF:Hid (∀k s,ss[k]?=some s→keyB s=false→keysB ss most=false):=fun k s a b=>keysB_f2 a b
   generalize hK:keysB ss most=KK at*;clear hK;generalize hn:ss.length=n at*;have HN:Hid (ss.length=n):=hn;clear hn;go_enter Tryz.func75,Tryz.ntmps75;go_wp2_with (go_at_call 77;refine(within_any _ _ _ _).mono ?_;rintro e w' ⟨rfl,rfl⟩)
   go_loop [14] (fun i=>∃k:Nat,k≤n∧i= .int .i64 k∧Hid ((ss.take k).all keyB=true)) (fun i=>n-(intOf i).toNat)
   case atStart=>exact⟨0,Nat.zero_le _,rfl,(by show _=_;simp)⟩
   case round=>
    obtain⟨k,hk,rfl,hall⟩:=hrel;by_cases hlt:k<n
    ·obtain⟨s,hs⟩:∃s,ss[k]?=some s:=⟨ss[k]'(by rw[HN.out];exact hlt),List.getElem?_eq_getElem _⟩
     have hcell:=HC.out k s hs;have hm:=HSZ.out s (List.mem_of_getElem? hs);have HS:Hid (ss[k]?=some s):=hs;clear hs;cases hb:keyB s with
     |true=>
      go_wp2_with (go_at_call 50;refine(key_any _ _ hm).mono ?_;rintro e w' ⟨rfl,rfl⟩)
      go_round
      case rel=>
       refine⟨k+1,by omega,by go_num,?_⟩;show _=_;rw[List.take_add_one,HS.out,List.all_append,hall.out];simp[hb]
      case measure=>simp[intOf];omega
     |false=>
      go_wp2_with (go_at_call 50;refine(key_any _ _ hm).mono ?_;rintro e w' ⟨rfl,rfl⟩)
      go_ret;exact⟨ret_bool (HF.out k s HS.out hb).symm,rfl⟩
    ·have:k=n:=by omega
     subst this;go_wp2;go_ret;exact⟨ret_bool (HT.out hall.out).symm,rfl⟩
  ·exfalso;simp[withinB]at h1
theorem value_any (s:ByteArray)(w:World)(hs:s.size≤maxLen):Calls Tryz.prog 76 #[.string s] w fun e w'=>e= .returned (.bool (decide ((s.size:Int)≤40)))∧w'=w:=by
 unfold maxLen at hs;go_enter Tryz.func76,Tryz.ntmps76;go_wp2;go_ret;exact⟨rfl,rfl⟩
set_option maxHeartbeats 1000000
theorem StrsAt.later {w w':World}{v:Value}{ss:List ByteArray}(h:StrsAt w v ss)(hb:Below w.heap.size w w'):StrsAt w' v ss:=by
 obtain⟨hf,sm,hsz⟩:=h;refine⟨?_,sm,hsz⟩;rcases hf with⟨b,o,c,rfl,hlt,hc⟩|⟨a,rfl,rfl⟩
 ·exact .inl ⟨b,o,c,rfl,Nat.lt_of_lt_of_le hlt hb.size,fun i s hs=>(hb.cell (p:=⟨b,o+i,none⟩) hlt).trans (hc i s hs)⟩
 ·exact .inr ⟨a,rfl,rfl⟩
theorem cmd_get (v:Value)(ss:List ByteArray)(val wd:ByteArray)(ft:Bool)(id:Int)(w:World)(h:StrsAt w v ss)(hv:val.size≤maxLen):Calls Tryz.prog 48 #[.agg #[.int .i64 1,v,.string val,.string wd,.bool ft,.int .i64 id]] w fun e w'=>e= .returned (.bool (keysB ss 4&&val.toList.isEmpty))∧Below w.heap.size w w':=by
 cases h1:keysB ss 4 with
 |true=>
  go_enter Tryz.func48,Tryz.ntmps48;go_wp2_with (first|(go_at_call 75;refine(keys_any v ss _ _ (h.later ((Below.refl _ _).alloc (Nat.le_refl _) _))).mono ?_;rintro e w' ⟨rfl,rfl⟩)|(go_at_call 76;refine(value_any _ _ hv).mono ?_;rintro e w' ⟨rfl,rfl⟩))
  go_ret;exact⟨ret_bool (Bool.true_and _).symm,((Below.refl _ _).alloc (Nat.le_refl _) _)⟩
 |false=>
  go_enter Tryz.func48,Tryz.ntmps48;go_wp2_with (first|(go_at_call 75;refine(keys_any v ss _ _ (h.later ((Below.refl _ _).alloc (Nat.le_refl _) _))).mono ?_;rintro e w' ⟨rfl,rfl⟩)|(go_at_call 76;refine(value_any _ _ hv).mono ?_;rintro e w' ⟨rfl,rfl⟩))
  go_ret;exact⟨ret_bool rfl,((Below.refl _ _).alloc (Nat.le_refl _) _)⟩
theorem cmd_set (v:Value)(ss:List ByteArray)(val wd:ByteArray)(ft:Bool)(id:Int)(w:World)(h:StrsAt w v ss)(hv:val.size≤maxLen):Calls Tryz.prog 48 #[.agg #[.int .i64 2,v,.string val,.string wd,.bool ft,.int .i64 id]] w fun e w'=>e= .returned (.bool (keysB ss 1&&decide ((val.size:Int)≤40)))∧Below w.heap.size w w':=by
 cases h1:keysB ss 1 with
 |true=>
  go_enter Tryz.func48,Tryz.ntmps48;go_wp2_with (first|(go_at_call 75;refine(keys_any v ss _ _ (h.later ((Below.refl _ _).alloc (Nat.le_refl _) _))).mono ?_;rintro e w' ⟨rfl,rfl⟩)|(go_at_call 76;refine(value_any _ _ hv).mono ?_;rintro e w' ⟨rfl,rfl⟩))
  go_ret;exact⟨ret_bool (Bool.true_and _).symm,((Below.refl _ _).alloc (Nat.le_refl _) _)⟩
 |false=>
  go_enter Tryz.func48,Tryz.ntmps48;go_wp2_with (first|(go_at_call 75;refine(keys_any v ss _ _ (h.later ((Below.refl _ _).alloc (Nat.le_refl _) _))).mono ?_;rintro e w' ⟨rfl,rfl⟩)|(go_at_call 76;refine(value_any _ _ hv).mono ?_;rintro e w' ⟨rfl,rfl⟩))
  go_ret;exact⟨ret_bool rfl,((Below.refl _ _).alloc (Nat.le_refl _) _)⟩
theorem cmd_del (v:Value)(ss:List ByteArray)(val wd:ByteArray)(ft:Bool)(id:Int)(w:World)(h:StrsAt w v ss)(hv:val.size≤maxLen):Calls Tryz.prog 48 #[.agg #[.int .i64 3,v,.string val,.string wd,.bool ft,.int .i64 id]] w fun e w'=>e= .returned (.bool (keysB ss 1&&val.toList.isEmpty))∧Below w.heap.size w w':=by
 cases h1:keysB ss 1 with
 |true=>
  go_enter Tryz.func48,Tryz.ntmps48;go_wp2_with (first|(go_at_call 75;refine(keys_any v ss _ _ (h.later ((Below.refl _ _).alloc (Nat.le_refl _) _))).mono ?_;rintro e w' ⟨rfl,rfl⟩)|(go_at_call 76;refine(value_any _ _ hv).mono ?_;rintro e w' ⟨rfl,rfl⟩))
  go_ret;exact⟨ret_bool (Bool.true_and _).symm,((Below.refl _ _).alloc (Nat.le_refl _) _)⟩
 |false=>
  go_enter Tryz.func48,Tryz.ntmps48;go_wp2_with (first|(go_at_call 75;refine(keys_any v ss _ _ (h.later ((Below.refl _ _).alloc (Nat.le_refl _) _))).mono ?_;rintro e w' ⟨rfl,rfl⟩)|(go_at_call 76;refine(value_any _ _ hv).mono ?_;rintro e w' ⟨rfl,rfl⟩))
  go_ret;exact⟨ret_bool rfl,((Below.refl _ _).alloc (Nat.le_refl _) _)⟩
theorem cmd_other (k:Int)(v:Value)(val wd:ByteArray)(ft:Bool)(id:Int)(w:World)(k1:k≠1)(k2:k≠2)(k3:k≠3):Calls Tryz.prog 48 #[.agg #[.int .i64 k,v,.string val,.string wd,.bool ft,.int .i64 id]] w fun e w'=>e= .returned (.bool false)∧Below w.heap.size w w':=by
 have g1:(k==1)=false:=by simpa using k1
 have g2:(k==2)=false:=by simpa using k2
 have g3:(k==3)=false:=by simpa using k3
 go_enter Tryz.func48,Tryz.ntmps48;go_wp2;go_ret;exact⟨rfl,((Below.refl _ _).alloc (Nat.le_refl _) _)⟩
theorem hide' {p:Prop}(h:p):Hid p:=h
theorem bcell2 {W w1:World}(hb:Below W.heap.size W w1):(∀b o,b<W.heap.size→w1.cell? ⟨b,o,none⟩=W.cell? ⟨b,o,none⟩)∧(∀b o,b<W.heap.size→w1.frozen? ⟨b,o,none⟩=W.frozen? ⟨b,o,none⟩):=
 ⟨fun b o h=>hb.cell (p:=⟨b,o,none⟩) h,fun b o h=>hb.frozen (p:=⟨b,o,none⟩) h⟩
variable {w:World}{b:Nat}{cs:Array Value}{f:Nat×Nat}
theorem blkCell {t:TypeId}(h:w.heap[b]?=some (.cells cs t f))(i:Nat):w.cell? ⟨b,i,none⟩=cs[i]?:=by
 simp[World.cell?,h]
theorem blkFree {t:TypeId}(h:w.heap[b]?=some (.cells cs t (0,0)))(i:Nat):w.frozen? ⟨b,i,none⟩=false:=by
 simp[World.frozen?,h]
theorem blkLt {o:Obj}(h:w.heap[b]?=some o):b<w.heap.size:=(Array.getElem?_eq_some_iff.1 h).1
theorem blkNew (w:World)(o:Obj):(w.alloc o).heap[w.heap.size]?=some o:=by
 show(w.heap.push o)[w.heap.size]?=some o;exact Array.getElem?_push_size
theorem blkSet {i:Nat}{t:TypeId}(h:w.heap[b]?=some (.cells cs t f))(v:Value):(w.setCell ⟨b,i,none⟩ v).heap[b]?=some (.cells (cs.setIfInBounds i v) t f):=by
 have hlt:=blkLt h;have he:w.heap[b]= .cells cs t f:=(Array.getElem?_eq_some_iff.1 h).2;simp[World.setCell,Array.getElem_modify,hlt,he]
def zStep:Array Value:=#[.int .i64 0,.slice none 0 0,.string ⟨#[]⟩,.string ⟨#[]⟩,.bool false,.int .i64 0,.int .i64 0,.bool false]
theorem hmk (w:World):(Instr.makeSlice 34 (.int .i64 0) (.int .i64 5)).run Tryz.prog w= .ok (.slice (some ⟨w.heap.size,0,none⟩) 0 5) (w.alloc (.cells #[.string ⟨#[]⟩,.string ⟨#[]⟩,.string ⟨#[]⟩,.string ⟨#[]⟩,.string ⟨#[]⟩] 9)):=by kernel_rfl
end Go.Proofs.YtlonjggfnleolaaGreatDoor
