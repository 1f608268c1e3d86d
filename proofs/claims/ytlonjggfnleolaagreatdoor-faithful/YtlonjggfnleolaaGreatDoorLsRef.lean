import Derived.Test.YtlonjggfnleolaaGreatDoorRefAsk
namespace Go.Proofs.YtlonjggfnleolaaGreatDoor
open Go.RowKit
set_option linter.unusedVariables false
structure BoolsIn (w:World)(a:Option Addr)(n c:Nat)(bs:List Bool):Prop where
 len:bs.length=n
 cap:n≤c
 small:bs.length≤140737488355328
 form:(∃b o,a=some ⟨b,o,none⟩∧b<w.heap.size∧∀(i:Nat) (s:Bool),bs[i]?=some s→w.cell? ⟨b,o+i,none⟩=some (.bool s))∨(bs=[]∧c=0)
theorem BoolsIn.later {w w':World}{a:Option Addr}{n c:Nat}{bs:List Bool}(h:BoolsIn w a n c bs)(hb:Below w.heap.size w w'):BoolsIn w' a n c bs:=by
 obtain⟨hl,hc,sm,hf⟩:=h;refine⟨hl,hc,sm,?_⟩;rcases hf with⟨b,o,rfl,hlt,hcell⟩|h
 ·exact .inl ⟨b,o,rfl,Nat.lt_of_lt_of_le hlt hb.size,fun i s hs=>(hb.cell (p:=⟨b,o+i,none⟩) hlt).trans (hcell i s hs)⟩
 ·exact .inr h
set_option maxHeartbeats 2000000
variable {w:World}{a:Option Addr}{n c i:Nat}{bs:List Bool}{vs:List ByteArray}{f:Bool}{x:ByteArray}
def allLet (s:ByteArray):Bool:=s.data.toList.all letB
def wordB (s:ByteArray):Bool:=withinB 1 s.size 8&&allLet s
theorem each_letter (s:ByteArray)(w:World)(hs:s.size≤maxLen):Calls Tryz.prog 78 #[.string s,.func (.func 80) #[] #[]] w fun e w'=>e= .returned (.bool (allLet s))∧w'=w:=by
 unfold maxLen at hs;go_enter Tryz.func78,Tryz.ntmps78;go_wp2;go_loop [8] (fun i=>∃k:Nat,k≤s.size∧i= .int .i64 k∧(s.data.toList.take k).all letB=true) (fun i=>s.size-(intOf i).toNat)
 case atStart=>exact⟨0,Nat.zero_le _,rfl,by simp⟩
 case round=>
  obtain⟨k,hk,rfl,hall⟩:=hrel;have HA:Hid ((s.data.toList.take k).all letB=true):=hall;clear hall;by_cases hlt:k<s.size
  ·cases hb:letB s[k]with
   |true=>
    go_wp2_with (go_at_call 80;refine(letter_any _ _).mono ?_;rintro e w' ⟨rfl,rfl⟩)
    go_round
    case rel=>exact⟨k+1,by omega,by go_num,by rw[take_snoc s k hlt];simp[HA.out,hb]⟩
    case measure=>simp[intOf];omega
   |false=>
    go_wp2_with (go_at_call 80;refine(letter_any _ _).mono ?_;rintro e w' ⟨rfl,rfl⟩)
    go_ret;exact⟨ret_bool (all_at hlt hb).symm,rfl⟩
  ·go_wp2;go_ret;exact⟨ret_bool (by rw[allLet,←HA.out,List.take_of_length_le (by simp;omega)]),rfl⟩
theorem word_any (s:ByteArray)(w:World)(hs:s.size≤maxLen):Calls Tryz.prog 157 #[.string s] w fun e w'=>e= .returned (.bool (wordB s))∧w'=w:=by
 have hs':=hs;unfold maxLen at hs;cases h1:withinB 1 s.size 8 with
 |true=>
  go_enter Tryz.func157,Tryz.ntmps157;go_wp2_with (first|(go_at_call 77;refine(within_any _ _ _ _).mono ?_;rintro e w' ⟨rfl,rfl⟩)|(go_at_call 78;refine(each_letter _ _ hs').mono ?_;rintro e w' ⟨rfl,rfl⟩))
  go_ret;exact⟨ret_bool (by simp only[wordB,h1,Bool.true_and]),rfl⟩
 |false=>
  go_enter Tryz.func157,Tryz.ntmps157;go_wp2_with (first|(go_at_call 77;refine(within_any _ _ _ _).mono ?_;rintro e w' ⟨rfl,rfl⟩)|(go_at_call 78;refine(each_letter _ _ hs').mono ?_;rintro e w' ⟨rfl,rfl⟩))
  go_ret;exact⟨ret_bool (by simp only[wordB,h1,Bool.false_and]),rfl⟩
theorem BoolsIn.at (h:BoolsIn w a n c bs):∀(i:Nat) (s:Bool),bs[i]?=some s→∃b o,a=some ⟨b,o,none⟩∧b<w.heap.size∧w.cell? ⟨b,o+i,none⟩=some (.bool s):=by
 rcases h.form with⟨b,o,rfl,hlt,hcell⟩|⟨rfl,_⟩
 ·exact fun i s hs=>⟨b,o,rfl,hlt,hcell i s hs⟩
 ·intro i s hs;simp at hs
theorem StrsIn.at {bs:List ByteArray}(h:StrsIn w a n c bs):∀(i:Nat) (s:ByteArray),bs[i]?=some s→∃b o,a=some ⟨b,o,none⟩∧b<w.heap.size∧w.cell? ⟨b,o+i,none⟩=some (.string s):=by
 rcases h.form with⟨b,o,rfl,hlt,hcell⟩|⟨rfl,_⟩
 ·exact fun i s hs=>⟨b,o,rfl,hlt,hcell i s hs⟩
 ·intro i s hs;simp at hs
def ansV (k:Int)(f v:Value)(wd:ByteArray):Value:= .agg #[.int .i64 k,f,v,.string wd]
def findOk (p:Bool×ByteArray):Bool:=decide ((p.2.size:Int)≤40)&&(p.1 || p.2.data.toList.isEmpty)
def findsB (bs:List Bool)(vs:List ByteArray)(n:Int):Bool:=decide ((bs.length:Int)=n)&&decide ((vs.length:Int)=n)&&(bs.zip vs).all findOk
theorem findsB_bad {n:Int}(h1:bs[i]?=some f)(h2:vs[i]?=some x)(h:findOk (f,x)=false):findsB bs vs n=false:=by
 unfold findsB;rw[List.all_eq_false.2 ⟨(f,x),?_,by simp[h]⟩]
 ·simp
 ·exact List.mem_of_getElem? (i:=i) (by rw[List.getElem?_zip_eq_some];exact⟨h1,h2⟩)
theorem zip_take_step (h1:bs[i]?=some f)(h2:vs[i]?=some x)(h:((bs.zip vs).take i).all findOk=true)(hf:findOk (f,x)=true):((bs.zip vs).take (i+1)).all findOk=true:=by
 have:(bs.zip vs)[i]?=some (f,x):=by rw[List.getElem?_zip_eq_some];exact⟨h1,h2⟩
 rw[List.take_add_one,this,List.all_append,h];simp[hf]
theorem empty_of_size (h:x.size=0):x=⟨#[]⟩:=by
 apply ba_ext;have:x.data.toList.length=0:=by simpa using h
 rw[List.length_eq_zero_iff.1 this]
theorem finds_any (k:Int)(fa va:Option Addr)(fn fc vn vc:Nat)(bs:List Bool)(vs:List ByteArray)(wd:ByteArray)(n:Int)(w:World)(hf:BoolsIn w fa fn fc bs)(hv:StrsIn w va vn vc vs):Calls Tryz.prog 156 #[ansV k (.slice fa fn fc) (.slice va vn vc) wd,.int .i64 n] w fun e w'=>e= .returned (.bool (findsB bs vs n))∧Below w.heap.size w w':=by
 unfold ansV;have HB:=hide' (show∀x,Below w.heap.size w (w.alloc x)from fun x=>(Below.refl _ _).alloc (Nat.le_refl _) _);have hfl:=hf.len;have hvl:=hv.len;have hfs:=hf.small;have hvs:=hv.small;have hfc:=hf.cap;have hvc:=hv.cap;have HF:=hide' (fun x=>(hf.later (HB.out x)).at);have HV:=hide' (fun x=>(hv.later (HB.out x)).at);have HS:=hide' hv.sizes;have HBad:=hide' (show∀(i:Nat) (f:Bool) (x:ByteArray),bs[i]?=some f→vs[i]?=some x→findOk (f,x)=false→findsB bs vs n=false from fun i f x a b c=>findsB_bad a b c);have HGood:=hide' (show(bs.length:Int)=n→(vs.length:Int)=n→((bs.zip vs).take bs.length).all findOk=true→findsB bs vs n=true from fun a b h=>by
  unfold findsB;rw[List.take_of_length_le (by simp;omega)]at h;simp[a,b,h])
 have HNo:=hide' (show¬((bs.length:Int)=n∧(vs.length:Int)=n)→findsB bs vs n=false from fun h=>by
  unfold findsB;by_cases a:(bs.length:Int)=n
  ·by_cases b:(vs.length:Int)=n
   ·exact absurd ⟨a,b⟩ h
   ·simp[b]
  ·simp[a])
 clear hf hv;generalize hF:findsB bs vs n=F at*;clear hF;subst hfl hvl;generalize hFL:bs.length=fl at*;have HFL:=hide' hFL;clear hFL;generalize hVL:vs.length=vl at*;have HVL:=hide' hVL;clear hVL;by_cases a:(fl:Int)=n
 ·by_cases b:(vl:Int)=n
  ·subst a;have hvf:vl=fl:=by omega
   subst hvf;have HG:=hide' (HGood.out rfl rfl);clear b HNo HGood;go_enter Tryz.func156,Tryz.ntmps156;go_wp2;go_loop [22] (fun i=>∃j:Nat,j≤vl∧i= .int .i64 j∧Hid (((bs.zip vs).take j).all findOk=true)) (fun i=>vl-(intOf i).toNat)
   case atStart=>exact⟨0,Nat.zero_le _,rfl,(by show _=_;simp)⟩
   case round=>
    obtain⟨j,hj,rfl,hall⟩:=hrel;by_cases hlt:j<vl
    ·obtain⟨f,hf⟩:∃f,bs[j]?=some f:=⟨bs[j]'(by rw[HFL.out];exact hlt),List.getElem?_eq_getElem _⟩
     obtain⟨x,hx⟩:∃x,vs[j]?=some x:=⟨vs[j]'(by rw[HVL.out];exact hlt),List.getElem?_eq_getElem _⟩
     obtain⟨fb,fo,rfl,hfb,hfcell⟩:=HF.out (.cells #[.int .i64 k,.slice fa vl fc,.slice va vl vc,.string wd] 91) j f hf;obtain⟨vb,vo,rfl,hvb,hvcell⟩:=HV.out (.cells #[.int .i64 k,.slice (some ⟨fb,fo,none⟩) vl fc,.slice va vl vc,.string wd] 91) j x hx;have hm:=HS.out x (List.mem_of_getElem? hx);have HM:=hide' hm;unfold maxLen at hm;have HN:Hid (findOk (f,x)=true→((bs.zip vs).take (j+1)).all findOk=true):=fun h=>zip_take_step hf hx hall.out h
     have HO:Hid (findOk (f,x)=false→F=false):=fun h=>HBad.out j f x hf hx h
     clear hf hx HF HV HS HBad HG hall;by_cases h40:(x.size:Int)≤40
     ·cases f with
      |true=>
       have HH:=hide' (HN.out (by simp[findOk,h40]));clear HN HO;go_wp2_with (go_at_call 76;refine(value_any _ _ HM.out).mono ?_;rintro e w' ⟨rfl,rfl⟩)
       go_round
       case rel=>exact⟨j+1,by omega,by go_num,HH⟩
       case measure=>simp[intOf];omega
      |false=>
       by_cases hxe:x=⟨#[]⟩
       ·subst hxe;have HH:=hide' (HN.out (by decide));clear HN HO;go_wp2_with (go_at_call 76;refine(value_any _ _ HM.out).mono ?_;rintro e w' ⟨rfl,rfl⟩)
        go_round
        case rel=>exact⟨j+1,by omega,by go_num,HH⟩
        case measure=>simp[intOf];omega
       ·have HH:=hide' (HO.out (by
         have:x.data.toList≠[]:=fun h=>hxe (ba_ext h)
         simp[findOk];intro _;simpa using this))
        have hne:x.toList.isEmpty=false:=by
         cases h:x.toList.isEmpty
         ·rfl
         ·exact absurd (empty_of_size (emptyB h)) hxe
        clear HN HO;go_wp2_with (go_at_call 76;refine(value_any _ _ HM.out).mono ?_;rintro e w' ⟨rfl,rfl⟩)
        go_ret;exact⟨ret_bool HH.out.symm,HB.out _⟩
     ·have HH:=hide' (HO.out (by simp[findOk];omega));have h40':decide ((x.size:Int)≤40)=false:=by simpa using h40
      clear HN HO;go_wp2_with (go_at_call 76;refine(value_any _ _ HM.out).mono ?_;rintro e w' ⟨rfl,rfl⟩)
      go_ret;exact⟨ret_bool HH.out.symm,HB.out _⟩
    ·have hj2:j=vl:=by omega
     subst hj2;have HH:=hide' (HG.out hall.out);go_wp2;go_ret;exact⟨ret_bool HH.out.symm,HB.out _⟩
  ·have b':((vl:Int) != n)=true:=by simpa using b
   have HH:=hide' (HNo.out (fun h=>b h.2));subst a;clear HNo HGood HBad b;go_enter Tryz.func156,Tryz.ntmps156;go_wp2;go_ret;exact⟨ret_bool HH.out.symm,HB.out _⟩
 ·have a':((fl:Int) != n)=true:=by simpa using a
  have HH:=hide' (HNo.out (fun h=>a h.1));clear HNo HGood HBad a;go_enter Tryz.func156,Tryz.ntmps156;go_wp2;go_ret;exact⟨ret_bool HH.out.symm,HB.out _⟩
set_option maxHeartbeats 4000000
set_option maxRecDepth 20000
def answerB (ck:Int)(ss:List ByteArray)(val:ByteArray)(ak:Int)(bs:List Bool)(vs:List ByteArray)(wd:ByteArray):Bool:=
 (decide (ck=4) || cmdB ck ss val)&&(if ak=1 then decide (ck=1)&&findsB bs vs ss.length else if ak=2 then decide (ck=2)else if ak=3∨ak=4 then decide (ck=3)else if ak=5 then wordB wd else false)
theorem beqZ (a b:Int):(a==b)=decide (a=b):=by
 by_cases h:a=b
 ·simp[h]
 ·simp[h]
theorem answer_any (ck:Int)(a:Option Addr)(n c:Nat)(ss:List ByteArray)(val cw:ByteArray)(ft:Bool)(cid:Int)(ak:Int)(fa va:Option Addr)(fn fc vn vc:Nat)(bs:List Bool)(vs:List ByteArray)(wd:ByteArray)(w:World)(hs:StrsIn w a n c ss)(hval:val.size≤maxLen)(hf:BoolsIn w fa fn fc bs)(hv:StrsIn w va vn vc vs)(hw:wd.size≤maxLen):Calls Tryz.prog 123 #[cmdV6 ck (.slice a n c) val cw ft cid,ansV ak (.slice fa fn fc) (.slice va vn vc) wd] w fun e w'=>e= .returned (.bool (answerB ck ss val ak bs vs wd))∧Below w.heap.size w w':=by
 have HB2:=hide' (show∀x y,Below w.heap.size w ((w.alloc x).alloc y)from fun x y=>((Below.refl _ _).alloc (Nat.le_refl _) _).alloc (by simp) _);have HC:Hid (∀x y,Calls Tryz.prog 48 #[cmdV6 ck (.slice a n c) val cw ft cid] ((w.alloc x).alloc y) fun e w'=>e= .returned (.bool (cmdB ck ss val))∧Below ((w.alloc x).alloc y).heap.size ((w.alloc x).alloc y) w'):=fun x y=>cmd_any ck (.slice a n c) ss val cw ft cid _ (hs.later (HB2.out x y)).strs hval
 have HFi:Hid (∀W,Below w.heap.size w W→Calls Tryz.prog 156 #[ansV ak (.slice fa fn fc) (.slice va vn vc) wd,.int .i64 n] W fun e w'=>e= .returned (.bool (findsB bs vs ss.length))∧Below W.heap.size W w'):=fun W hW=>by
  rw[hs.len];exact finds_any ak fa va fn fc vn vc bs vs wd n W (hf.later hW) (hv.later hW)
 have HWd:Hid (∀W,Calls Tryz.prog 157 #[.string wd] W fun e w'=>e= .returned (.bool (wordB wd))∧w'=W):=fun W=>word_any wd W hw
 have HA:=hide' (show answerB ck ss val ak bs vs wd=((decide (ck=4) || cmdB ck ss val)&&(if ak=1 then decide (ck=1)&&findsB bs vs ss.length else if ak=2 then decide (ck=2)else if ak=3∨ak=4 then decide (ck=3)else if ak=5 then wordB wd else false))from rfl);generalize answerB ck ss val ak bs vs wd=A at*;generalize findsB bs vs ss.length=F at*;generalize wordB wd=D at*;generalize cmdB ck ss val=C at*;clear hs hval hf hv hw;unfold cmdV6 ansV at*;by_cases h4:ck=4
 ·subst h4;have HA2:=hide' HA.out;by_cases k1:ak=1
  ·subst k1;have H:=hide' (show A=false by rw[HA.out];simp);clear HA HA2;go_enter Tryz.func123,Tryz.ntmps123;go_wp2;go_ret;exact⟨ret_bool H.out.symm,HB2.out _ _⟩
  by_cases k2:ak=2
  ·subst k2;have H:=hide' (show A=false by rw[HA.out];simp);clear HA HA2;go_enter Tryz.func123,Tryz.ntmps123;go_wp2;go_ret;exact⟨ret_bool H.out.symm,HB2.out _ _⟩
  by_cases k3:ak=3
  ·subst k3;have H:=hide' (show A=false by rw[HA.out];simp);clear HA HA2;go_enter Tryz.func123,Tryz.ntmps123;go_wp2;go_ret;exact⟨ret_bool H.out.symm,HB2.out _ _⟩
  by_cases k4:ak=4
  ·subst k4;have H:=hide' (show A=false by rw[HA.out];simp);clear HA HA2;go_enter Tryz.func123,Tryz.ntmps123;go_wp2;go_ret;exact⟨ret_bool H.out.symm,HB2.out _ _⟩
  by_cases k5:ak=5
  ·subst k5;have H:=hide' (show A=D by rw[HA.out];simp);clear HA HA2;go_enter Tryz.func123,Tryz.ntmps123;go_wp2_with (go_at_call 157;refine(HWd.out _).mono ?_;rintro e w' ⟨rfl,rfl⟩)
   go_ret;exact⟨ret_bool H.out.symm,HB2.out _ _⟩
  have H:=hide' (show A=false by rw[HA.out];simp[k1,k2,k3,k4,k5]);have k1':(ak==1)=false:=by simpa using k1
  have k2':(ak==2)=false:=by simpa using k2
  have k3':(ak==3)=false:=by simpa using k3
  have k4':(ak==4)=false:=by simpa using k4
  have k5':(ak==5)=false:=by simpa using k5
  clear HA HA2;go_enter Tryz.func123,Tryz.ntmps123;go_wp2;go_ret;exact⟨ret_bool H.out.symm,HB2.out _ _⟩
 ·have h4':(ck != 4)=true:=by simpa using h4
  cases C with
  |false=>
   have H:=hide' (show A=false by rw[HA.out];simp[h4]);clear HA;go_enter Tryz.func123,Tryz.ntmps123;go_wp2_with fail
   go_at_call 48;refine(HC.out _ _).mono ?_;rintro e w1 ⟨rfl,hb1⟩;have hW:=(HB2.out _ _).trans (hb1.mono (by simp;omega));have k0:=(hb1.cell (p:=⟨w.heap.size,0,none⟩) (by simp;omega))
   have k1c:=(hb1.cell (p:=⟨w.heap.size,1,none⟩) (by simp;omega))
   have m0:=(hb1.cell (p:=⟨w.heap.size+1,0,none⟩) (by simp))
   have m1:=(hb1.cell (p:=⟨w.heap.size+1,1,none⟩) (by simp))
   have m2:=(hb1.cell (p:=⟨w.heap.size+1,2,none⟩) (by simp))
   have m3:=(hb1.cell (p:=⟨w.heap.size+1,3,none⟩) (by simp))
   have HW:=hide' hW;clear hb1 hW HC HB2;go_wp2;go_ret;exact⟨ret_bool H.out.symm,HW.out⟩
  |true=>
   have HA2:=hide' (show A=(if ak=1 then decide (ck=1)&&F else if ak=2 then decide (ck=2)else if ak=3∨ak=4 then decide (ck=3)else if ak=5 then D else false)by rw[HA.out];simp);clear HA;by_cases k1:ak=1
   ·subst k1;by_cases c1:ck=1
    ·subst c1;have H:=hide' (show A=F by rw[HA2.out];simp);clear HA2 h4 h4';go_enter Tryz.func123,Tryz.ntmps123;go_wp2_with fail
     go_at_call 48;refine(HC.out _ _).mono ?_;rintro e w1 ⟨rfl,hb1⟩;have hW:=(HB2.out _ _).trans (hb1.mono (by simp;omega));have k0:=(hb1.cell (p:=⟨w.heap.size,0,none⟩) (by simp;omega))
     have k1c:=(hb1.cell (p:=⟨w.heap.size,1,none⟩) (by simp;omega))
     have m0:=(hb1.cell (p:=⟨w.heap.size+1,0,none⟩) (by simp))
     have m1:=(hb1.cell (p:=⟨w.heap.size+1,1,none⟩) (by simp))
     have m2:=(hb1.cell (p:=⟨w.heap.size+1,2,none⟩) (by simp))
     have m3:=(hb1.cell (p:=⟨w.heap.size+1,3,none⟩) (by simp))
     have HW:=hide' hW;clear hb1 hW HC HB2;go_wp2_with fail
     go_at_call 156;refine(HFi.out _ HW.out).mono ?_;rintro e w2 ⟨rfl,hb2⟩;have H2:=hide' (HW.out.trans (hb2.mono HW.out.size));clear hb2;go_wp2;go_ret;exact⟨ret_bool H.out.symm,H2.out⟩
    ·have c1':(ck==1)=false:=by simpa using c1
     have H:=hide' (show A=false by rw[HA2.out];simp[c1]);clear HA2;go_enter Tryz.func123,Tryz.ntmps123;go_wp2_with fail
     go_at_call 48;refine(HC.out _ _).mono ?_;rintro e w1 ⟨rfl,hb1⟩;have hW:=(HB2.out _ _).trans (hb1.mono (by simp;omega));have k0:=(hb1.cell (p:=⟨w.heap.size,0,none⟩) (by simp;omega))
     have k1c:=(hb1.cell (p:=⟨w.heap.size,1,none⟩) (by simp;omega))
     have m0:=(hb1.cell (p:=⟨w.heap.size+1,0,none⟩) (by simp))
     have m1:=(hb1.cell (p:=⟨w.heap.size+1,1,none⟩) (by simp))
     have m2:=(hb1.cell (p:=⟨w.heap.size+1,2,none⟩) (by simp))
     have m3:=(hb1.cell (p:=⟨w.heap.size+1,3,none⟩) (by simp))
     have HW:=hide' hW;clear hb1 hW HC HB2;go_wp2;go_ret;exact⟨ret_bool H.out.symm,HW.out⟩
   by_cases k2:ak=2
   ·subst k2;have H:=hide' (show A=(ck==2)by rw[HA2.out,beqZ];simp);clear HA2;go_enter Tryz.func123,Tryz.ntmps123;go_wp2_with fail
    go_at_call 48;refine(HC.out _ _).mono ?_;rintro e w1 ⟨rfl,hb1⟩;have hW:=(HB2.out _ _).trans (hb1.mono (by simp;omega));have k0:=(hb1.cell (p:=⟨w.heap.size,0,none⟩) (by simp;omega))
    have k1c:=(hb1.cell (p:=⟨w.heap.size,1,none⟩) (by simp;omega))
    have m0:=(hb1.cell (p:=⟨w.heap.size+1,0,none⟩) (by simp))
    have m1:=(hb1.cell (p:=⟨w.heap.size+1,1,none⟩) (by simp))
    have m2:=(hb1.cell (p:=⟨w.heap.size+1,2,none⟩) (by simp))
    have m3:=(hb1.cell (p:=⟨w.heap.size+1,3,none⟩) (by simp))
    have HW:=hide' hW;clear hb1 hW HC HB2;go_wp2;go_ret;exact⟨ret_bool H.out.symm,HW.out⟩
   by_cases k3:ak=3
   ·subst k3;have H:=hide' (show A=(ck==3)by rw[HA2.out,beqZ];simp);clear HA2;go_enter Tryz.func123,Tryz.ntmps123;go_wp2_with fail
    go_at_call 48;refine(HC.out _ _).mono ?_;rintro e w1 ⟨rfl,hb1⟩;have hW:=(HB2.out _ _).trans (hb1.mono (by simp;omega));have k0:=(hb1.cell (p:=⟨w.heap.size,0,none⟩) (by simp;omega))
    have k1c:=(hb1.cell (p:=⟨w.heap.size,1,none⟩) (by simp;omega))
    have m0:=(hb1.cell (p:=⟨w.heap.size+1,0,none⟩) (by simp))
    have m1:=(hb1.cell (p:=⟨w.heap.size+1,1,none⟩) (by simp))
    have m2:=(hb1.cell (p:=⟨w.heap.size+1,2,none⟩) (by simp))
    have m3:=(hb1.cell (p:=⟨w.heap.size+1,3,none⟩) (by simp))
    have HW:=hide' hW;clear hb1 hW HC HB2;go_wp2;go_ret;exact⟨ret_bool H.out.symm,HW.out⟩
   by_cases k4:ak=4
   ·subst k4;have H:=hide' (show A=(ck==3)by rw[HA2.out,beqZ];simp);clear HA2;go_enter Tryz.func123,Tryz.ntmps123;go_wp2_with fail
    go_at_call 48;refine(HC.out _ _).mono ?_;rintro e w1 ⟨rfl,hb1⟩;have hW:=(HB2.out _ _).trans (hb1.mono (by simp;omega));have k0:=(hb1.cell (p:=⟨w.heap.size,0,none⟩) (by simp;omega))
    have k1c:=(hb1.cell (p:=⟨w.heap.size,1,none⟩) (by simp;omega))
    have m0:=(hb1.cell (p:=⟨w.heap.size+1,0,none⟩) (by simp))
    have m1:=(hb1.cell (p:=⟨w.heap.size+1,1,none⟩) (by simp))
    have m2:=(hb1.cell (p:=⟨w.heap.size+1,2,none⟩) (by simp))
    have m3:=(hb1.cell (p:=⟨w.heap.size+1,3,none⟩) (by simp))
    have HW:=hide' hW;clear hb1 hW HC HB2;go_wp2;go_ret;exact⟨ret_bool H.out.symm,HW.out⟩
   by_cases k5:ak=5
   ·subst k5;have H:=hide' (show A=D by rw[HA2.out];simp);clear HA2;go_enter Tryz.func123,Tryz.ntmps123;go_wp2_with fail
    go_at_call 48;refine(HC.out _ _).mono ?_;rintro e w1 ⟨rfl,hb1⟩;have hW:=(HB2.out _ _).trans (hb1.mono (by simp;omega));have k0:=(hb1.cell (p:=⟨w.heap.size,0,none⟩) (by simp;omega))
    have k1c:=(hb1.cell (p:=⟨w.heap.size,1,none⟩) (by simp;omega))
    have m0:=(hb1.cell (p:=⟨w.heap.size+1,0,none⟩) (by simp))
    have m1:=(hb1.cell (p:=⟨w.heap.size+1,1,none⟩) (by simp))
    have m2:=(hb1.cell (p:=⟨w.heap.size+1,2,none⟩) (by simp))
    have m3:=(hb1.cell (p:=⟨w.heap.size+1,3,none⟩) (by simp))
    have HW:=hide' hW;clear hb1 hW HC HB2;go_wp2_with (go_at_call 157;refine(HWd.out _).mono ?_;rintro e w' ⟨rfl,rfl⟩)
    go_ret;exact⟨ret_bool H.out.symm,HW.out⟩
   have H:=hide' (show A=false by rw[HA2.out];simp[k1,k2,k3,k4,k5]);have k1':(ak==1)=false:=by simpa using k1
   have k2':(ak==2)=false:=by simpa using k2
   have k3':(ak==3)=false:=by simpa using k3
   have k4':(ak==4)=false:=by simpa using k4
   have k5':(ak==5)=false:=by simpa using k5
   clear HA2;go_enter Tryz.func123,Tryz.ntmps123;go_wp2_with fail
   go_at_call 48;refine(HC.out _ _).mono ?_;rintro e w1 ⟨rfl,hb1⟩;have hW:=(HB2.out _ _).trans (hb1.mono (by simp;omega));have k0:=(hb1.cell (p:=⟨w.heap.size,0,none⟩) (by simp;omega))
   have k1c:=(hb1.cell (p:=⟨w.heap.size,1,none⟩) (by simp;omega))
   have m0:=(hb1.cell (p:=⟨w.heap.size+1,0,none⟩) (by simp))
   have m1:=(hb1.cell (p:=⟨w.heap.size+1,1,none⟩) (by simp))
   have m2:=(hb1.cell (p:=⟨w.heap.size+1,2,none⟩) (by simp))
   have m3:=(hb1.cell (p:=⟨w.heap.size+1,3,none⟩) (by simp))
   have HW:=hide' hW;clear hb1 hW HC HB2;go_wp2;go_ret;exact⟨ret_bool H.out.symm,HW.out⟩
set_option maxHeartbeats 1000000
def liTellB (ak:Int)(wd:ByteArray):ByteArray:=if ak=2 then⟨#[100,111,110,101,10]⟩else if ak=3 then⟨#[103,111,110,101,10]⟩else if ak=4 then⟨#[110,111,110,101,10]⟩else⟨#[102,97,105,108,32]⟩++wd++⟨#[10]⟩
theorem liTell_plain (ck:Int)(kv:Value)(val cw:ByteArray)(ft:Bool)(cid:Int)(ak:Int)(fv vv:Value)(wd:ByteArray)(id:Int)(w:World)(hk:ak=2∨ak=3∨ak=4∨ak=5)(hw:ak=5→wd.size≤8):Calls Tryz.prog 212 #[.agg #[],cmdV6 ck kv val cw ft cid,ansV ak fv vv wd,.int .i64 id] w fun e w'=>e= .returned (.string (liTellB ak wd))∧Below w.heap.size w w':=by
 have HB3:=hide' (show∀x y z,Below w.heap.size w (((w.alloc x).alloc y).alloc z)from fun x y z=>(((Below.refl _ _).alloc (Nat.le_refl _) _).alloc (by simp) _).alloc (by simp;omega) _);unfold cmdV6 ansV;rcases hk with rfl|rfl|rfl|rfl;all_goals
  first|(have hw:=hw rfl)|clear hw
  go_enter Tryz.func212,Tryz.ntmps212
  go_wp2
  go_ret
  exact⟨ret_str rfl,HB3.out _ _ _⟩
def lsTellB (ak:Int)(wd:ByteArray):ByteArray:=if ak=2 then⟨#[43,100,111,110,101,10]⟩else if ak=3 then⟨#[58,49,10]⟩else if ak=4 then⟨#[58,48,10]⟩else⟨#[45]⟩++wd++⟨#[10]⟩
theorem lsTell_plain (ck:Int)(kv:Value)(val cw:ByteArray)(ft:Bool)(cid:Int)(ak:Int)(fv vv:Value)(wd:ByteArray)(id:Int)(w:World)(hk:ak=2∨ak=3∨ak=4∨ak=5)(hw:ak=5→wd.size≤8):Calls Tryz.prog 252 #[.agg #[],cmdV6 ck kv val cw ft cid,ansV ak fv vv wd,.int .i64 id] w fun e w'=>e= .returned (.string (lsTellB ak wd))∧Below w.heap.size w w':=by
 have HB3:=hide' (show∀x y z,Below w.heap.size w (((w.alloc x).alloc y).alloc z)from fun x y z=>(((Below.refl _ _).alloc (Nat.le_refl _) _).alloc (by simp) _).alloc (by simp;omega) _);unfold cmdV6 ansV;rcases hk with rfl|rfl|rfl|rfl;all_goals
  first|(have hw:=hw rfl)|clear hw
  go_enter Tryz.func252,Tryz.ntmps252
  go_wp2
  go_ret
  exact⟨ret_str rfl,HB3.out _ _ _⟩
variable {p:Bool×ByteArray×ByteArray}
def valB (p:Bool×ByteArray×ByteArray):ByteArray:=bif p.1 then⟨#[118,97,108,117,101,32]⟩++p.2.1++⟨#[32]⟩++sizedB p.2.2 else⟨#[]⟩
def liFold (ts:List (Bool×ByteArray×ByteArray)):ByteArray:=ts.foldl (fun s p=>s++valB p) ⟨#[]⟩
theorem valB_size (hk:p.2.1.size≤8)(hv:p.2.2.size≤40):(valB p).size≤59:=by
 have:=sizedB_size hv;have e1:(ByteArray.mk #[118,97,108,117,101,32]).size=6:=rfl;have e2:(ByteArray.mk #[32]).size=1:=rfl;unfold valB;cases p.1
 ·exact Nat.zero_le _
 ·show(_++_++_++_:ByteArray).size≤_;rw[ByteArray.size_append,ByteArray.size_append,ByteArray.size_append];omega
theorem liFoldA_size (a:ByteArray)(ts:List (Bool×ByteArray×ByteArray))(h:∀p∈ts,p.2.1.size≤8∧p.2.2.size≤40):(ts.foldl (fun s p=>s++valB p) a).size≤a.size+59*ts.length:=by
 induction ts generalizing a with
 |nil=>simp
 |cons x t ih=>
  have h1:=ih (a++valB x) (fun s hs=>h s (List.mem_cons_of_mem _ hs));have h2:=h x (List.mem_cons_self ..);have h3:=valB_size h2.1 h2.2;rw[ByteArray.size_append]at h1;rw[List.foldl_cons,List.length_cons];omega
theorem liFold_step {ts:List (Bool×ByteArray×ByteArray)}{j:Nat}(h:ts[j]?=some p):liFold (ts.take (j+1))=liFold (ts.take j)++valB p:=by
 rw[List.take_add_one,h];simp[liFold,List.foldl_append]
variable {p:Bool×ByteArray}
def tvB (p:Bool×ByteArray):ByteArray:=bif p.1 then textB p.2 else⟨#[36,45,49,10]⟩
def lsFold (ts:List (Bool×ByteArray)):ByteArray:=ts.foldl (fun s p=>s++tvB p) ⟨#[]⟩
def lsVals (n:Nat)(ts:List (Bool×ByteArray)):ByteArray:=if n=1 then lsFold ts else⟨#[42]⟩++dec100 n++⟨#[10]⟩++lsFold ts
theorem tvB_size (hv:p.2.size≤40):(tvB p).size≤45:=by
 have:=textB_size hv;unfold tvB;cases p.1
 ·show(ByteArray.mk #[36,45,49,10]).size≤45;decide
 ·exact this
theorem lsFoldA_size (a:ByteArray)(ts:List (Bool×ByteArray))(h:∀p∈ts,p.2.size≤40):(ts.foldl (fun s p=>s++tvB p) a).size≤a.size+45*ts.length:=by
 induction ts generalizing a with
 |nil=>simp
 |cons x t ih=>
  have h1:=ih (a++tvB x) (fun s hs=>h s (List.mem_cons_of_mem _ hs));have h3:=tvB_size (h x (List.mem_cons_self ..));rw[ByteArray.size_append]at h1;rw[List.foldl_cons,List.length_cons];omega
theorem lsFold_step {ts:List (Bool×ByteArray)}{j:Nat}(h:ts[j]?=some p):lsFold (ts.take (j+1))=lsFold (ts.take j)++tvB p:=by
 rw[List.take_add_one,h];simp[lsFold,List.foldl_append]
end Go.Proofs.YtlonjggfnleolaaGreatDoor
