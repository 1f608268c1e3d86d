import Derived.Test.YtlonjggfnleolaaGreatDoorRefAsk
namespace Go.Proofs.YtlonjggfnleolaaGreatDoor
open Go.RowKit
set_option linter.unusedVariables false
structure BoolsIn (w:World)(a:Option Addr)(n c:Nat)(bs:List Bool):Prop where
 len:bs.length=n
 cap:n≤c
 small:bs.length≤140737488355328
 form:(∃b o,a=some ⟨b,o,none⟩∧b<w.heap.size∧∀(i:Nat) (s:Bool),bs[i]?=some s→w.cell? ⟨b,o+i,none⟩=some (.bool s))∨(bs=[]∧c=0)
theorem BoolsIn.later {w w':World}{a:Option Addr}{n c:Nat}{bs:List Bool}(h:BoolsIn w a n c bs)(hb:Below w.heap.size w w'):BoolsIn w' a n c bs:=by
 obtain⟨hl,hc,sm,hf⟩:=h;refine⟨hl,hc,sm,?_⟩;rcases hf with⟨b,o,rfl,hlt,hcell⟩|h
 ·exact .inl ⟨b,o,rfl,Nat.lt_of_lt_of_le hlt hb.size,fun i s hs=>(hb.cell (p:=⟨b,o+i,none⟩) hlt).trans (hcell i s hs)⟩
 ·exact .inr h
def opV (k at':Int)(ck:Int)(kv:Value)(val cw:ByteArray)(ft:Bool)(cid:Int)(ak:Int)(fv vv:Value)(wd:ByteArray)(g0 g1 g2:Int)(s:ByteArray)(x y:Int):Value:=
 .agg #[.int .i64 k,.int .i64 at',.int .i64 ck,kv,.string val,.string cw,.bool ft,.int .i64 cid,.int .i64 ak,fv,vv,.string wd,.int .i64 g0,.int .i64 g1,.int .i64 g2,.string s,.int .i64 x,.int .i64 y]
def OpIn (w:World)(k:Int)(v:Value):Prop:=
 ∃(at' ck:Int) (a:Option Addr) (n c:Nat) (ss:List ByteArray) (val cw:ByteArray) (ft:Bool) (cid ak:Int) (fa va:Option Addr) (fn fc vn vc:Nat) (bs:List Bool) (vs:List ByteArray) (wd:ByteArray) (g0 g1 g2:Int) (s:ByteArray) (x y:Int),
  v=opV k at' ck (.slice a n c) val cw ft cid ak (.slice fa fn fc) (.slice va vn vc) wd g0 g1 g2 s x y∧StrsIn w a n c ss∧val.size≤maxLen∧BoolsIn w fa fn fc bs∧StrsIn w va vn vc vs∧wd.size≤maxLen∧s.size≤maxLen∧n≤8796093022208∧fn≤140737488355328∧vn≤8796093022208
variable {w:World}{a:Option Addr}{n c i:Nat}{bs:List Bool}{vs:List ByteArray}{f:Bool}{x:ByteArray}
def allLet (s:ByteArray):Bool:=s.data.toList.all letB
def wordB (s:ByteArray):Bool:=withinB 1 s.size 8&&allLet s
theorem BoolsIn.at (h:BoolsIn w a n c bs):∀(i:Nat) (s:Bool),bs[i]?=some s→∃b o,a=some ⟨b,o,none⟩∧b<w.heap.size∧w.cell? ⟨b,o+i,none⟩=some (.bool s):=by
 rcases h.form with⟨b,o,rfl,hlt,hcell⟩|⟨rfl,_⟩
 ·exact fun i s hs=>⟨b,o,rfl,hlt,hcell i s hs⟩
 ·intro i s hs;simp at hs
theorem StrsIn.at {bs:List ByteArray}(h:StrsIn w a n c bs):∀(i:Nat) (s:ByteArray),bs[i]?=some s→∃b o,a=some ⟨b,o,none⟩∧b<w.heap.size∧w.cell? ⟨b,o+i,none⟩=some (.string s):=by
 rcases h.form with⟨b,o,rfl,hlt,hcell⟩|⟨rfl,_⟩
 ·exact fun i s hs=>⟨b,o,rfl,hlt,hcell i s hs⟩
 ·intro i s hs;simp at hs
def ansV (k:Int)(f v:Value)(wd:ByteArray):Value:= .agg #[.int .i64 k,f,v,.string wd]
def findOk (p:Bool×ByteArray):Bool:=decide ((p.2.size:Int)≤40)&&(p.1 || p.2.data.toList.isEmpty)
def findsB (bs:List Bool)(vs:List ByteArray)(n:Int):Bool:=decide ((bs.length:Int)=n)&&decide ((vs.length:Int)=n)&&(bs.zip vs).all findOk
theorem findsB_bad {n:Int}(h1:bs[i]?=some f)(h2:vs[i]?=some x)(h:findOk (f,x)=false):findsB bs vs n=false:=by
 unfold findsB;rw[List.all_eq_false.2 ⟨(f,x),?_,by simp[h]⟩]
 ·simp
 ·exact List.mem_of_getElem? (i:=i) (by rw[List.getElem?_zip_eq_some];exact⟨h1,h2⟩)
theorem zip_take_step (h1:bs[i]?=some f)(h2:vs[i]?=some x)(h:((bs.zip vs).take i).all findOk=true)(hf:findOk (f,x)=true):((bs.zip vs).take (i+1)).all findOk=true:=by
 have:(bs.zip vs)[i]?=some (f,x):=by rw[List.getElem?_zip_eq_some];exact⟨h1,h2⟩
 rw[List.take_add_one,this,List.all_append,h];simp[hf]
theorem empty_of_size (h:x.size=0):x=⟨#[]⟩:=by
 apply ba_ext;have:x.data.toList.length=0:=by simpa using h
 rw[List.length_eq_zero_iff.1 this]
def answerB (ck:Int)(ss:List ByteArray)(val:ByteArray)(ak:Int)(bs:List Bool)(vs:List ByteArray)(wd:ByteArray):Bool:=
 (decide (ck=4) || cmdB ck ss val)&&(if ak=1 then decide (ck=1)&&findsB bs vs ss.length else if ak=2 then decide (ck=2)else if ak=3∨ak=4 then decide (ck=3)else if ak=5 then wordB wd else false)
theorem beqZ (a b:Int):(a==b)=decide (a=b):=by
 by_cases h:a=b
 ·simp[h]
 ·simp[h]
set_option maxHeartbeats 4000000
set_option maxRecDepth 20000
variable {s:ByteArray}
theorem letB_cases (b:UInt8):(letB b=true∧97≤(b.toNat:Int)∧(b.toNat:Int)≤122)∨(letB b=false∧((b.toNat:Int)<97∨122<(b.toNat:Int))):=by
 unfold letB;by_cases h1:97≤(b.toNat:Int)<;>by_cases h2:(b.toNat:Int)≤122<;>simp[h1,h2]<;>omega
theorem wordB_false {k:Nat}(h:k<s.size)(hf:letB s[k]=false):wordB s=false:=by
 simp only[wordB,allLet,all_at h hf,Bool.and_false]
theorem wordB_rest (h:(s.data.toList.take s.size).all letB=true):wordB s=withinB 1 s.size 8:=by
 have:allLet s=true:=by rw[allLet,←h,List.take_of_length_le (by simp)]
 simp only[wordB,this,Bool.and_true]
theorem refanswer_fail (ck:Int)(a:Option Addr)(n c:Nat)(ss:List ByteArray)(val cw:ByteArray)(ft:Bool)(cid:Int)(fv vv:Value)(bs:List Bool)(vs:List ByteArray)(wd:ByteArray)(w:World)(hs:StrsIn w a n c ss)(hval:val.size≤maxLen)(hw:wd.size≤maxLen):Calls Tryz.prog 144 #[cmdV6 ck (.slice a n c) val cw ft cid,ansV 5 fv vv wd] w fun e w'=>e= .returned (.bool (answerB ck ss val 5 bs vs wd))∧Below w.heap.size w w':=by
 have HB2:=hide' (show∀x y,Below w.heap.size w ((w.alloc x).alloc y)from fun x y=>((Below.refl _ _).alloc (Nat.le_refl _) _).alloc (by simp) _);have HC:Hid (∀x y,Calls Tryz.prog 139 #[cmdV6 ck (.slice a n c) val cw ft cid] ((w.alloc x).alloc y) fun e w'=>e= .returned (.bool (cmdB ck ss val))∧Below ((w.alloc x).alloc y).heap.size ((w.alloc x).alloc y) w'):=fun x y=>refcmd_any ck (.slice a n c) ss val cw ft cid _ (hs.later (HB2.out x y)).strs hval
 have HA:=hide' (show answerB ck ss val 5 bs vs wd=((decide (ck=4) || cmdB ck ss val)&&wordB wd)from rfl);have HF:Hid (∀k (h:k<wd.size),letB wd[k]=false→wordB wd=false):=fun k h hf=>wordB_false h hf
 have HT:Hid ((wd.data.toList.take wd.size).all letB=true→wordB wd=withinB 1 wd.size 8):=wordB_rest;generalize answerB ck ss val 5 bs vs wd=A at*;generalize wordB wd=D at*;generalize cmdB ck ss val=C at*;clear hs hval;unfold maxLen at hw;unfold cmdV6 ansV at*;go_enter Tryz.func144,Tryz.ntmps144;go_wp2_with fail
 go_at_call 139;refine(HC.out _ _).mono ?_;rintro e w1 ⟨rfl,hb1⟩;have hW:=(HB2.out _ _).trans (hb1.mono (by simp;omega));have k0:=(hb1.cell (p:=⟨w.heap.size,0,none⟩) (by simp;omega))
 have k1c:=(hb1.cell (p:=⟨w.heap.size,1,none⟩) (by simp;omega))
 have m0:=(hb1.cell (p:=⟨w.heap.size+1,0,none⟩) (by simp))
 have m1:=(hb1.cell (p:=⟨w.heap.size+1,1,none⟩) (by simp))
 have m2:=(hb1.cell (p:=⟨w.heap.size+1,2,none⟩) (by simp))
 have m3:=(hb1.cell (p:=⟨w.heap.size+1,3,none⟩) (by simp))
 have HW:=hide' hW;clear hb1 hW HC HB2;go_wp2;go_loop [6] (fun i=>∃k:Nat,k≤wd.size∧i= .int .i64 k∧Hid ((wd.data.toList.take k).all letB=true)) (fun i=>wd.size-(intOf i).toNat)
 case atStart=>exact⟨0,Nat.zero_le _,rfl,(by show _=_;simp)⟩
 case round=>
  obtain⟨k,hk,rfl,hall⟩:=hrel;by_cases hlt:k<wd.size
  ·rcases letB_cases wd[k]with⟨hb,h1,h2⟩|⟨hb,h|h⟩
   ·have HN:Hid ((wd.data.toList.take (k+1)).all letB=true):=by show _=_;rw[take_snoc wd k hlt,List.all_append,hall.out];simp[hb]
    clear hb;go_wp2;all_goals go_round
    all_goals first|exact⟨k+1,by omega,by go_num,HN⟩|(simp[intOf];omega)
   ·have H2:Hid (A=false):=by show _=_;rw[HA.out,HF.out k hlt hb,Bool.and_false]
    clear hb;go_wp2;all_goals(go_ret;exact⟨ret_bool H2.out.symm,HW.out⟩)
   ·have H2:Hid (A=false):=by show _=_;rw[HA.out,HF.out k hlt hb,Bool.and_false]
    clear hb;go_wp2;all_goals(go_ret;exact⟨ret_bool H2.out.symm,HW.out⟩)
  ·have hj2:k=wd.size:=by omega
   subst hj2;have HH:=hide' (show A=((decide (ck=4) || C)&&withinB 1 wd.size 8)by rw[HA.out,HT.out hall.out]);clear HA HF HT hall hlt hk;by_cases g1:1≤(wd.size:Int)
   ·by_cases g2:(wd.size:Int)≤8
    ·cases C with
     |true=>
      have H:=hide' (show A=true by rw[HH.out,withinB_t (by omega) (by omega)];simp);clear HH;go_wp2;go_ret;exact⟨ret_bool H.out.symm,HW.out⟩
     |false=>
      by_cases h4:ck=4
      ·subst h4;have H:=hide' (show A=true by rw[HH.out,withinB_t (by omega) (by omega)];simp);clear HH;go_wp2;go_ret;exact⟨ret_bool H.out.symm,HW.out⟩
      ·have h4':(ck==4)=false:=by simpa using h4
       have H:=hide' (show A=false by rw[HH.out];simp[h4]);clear HH;go_wp2;go_ret;exact⟨ret_bool H.out.symm,HW.out⟩
    ·have g2':¬(wd.size:Int)≤8:=g2;have H:=hide' (show A=false by rw[HH.out,withinB_f (by omega)];simp);clear HH;by_cases h4:ck=4
     ·subst h4;cases C<;>(go_wp2;go_ret;exact⟨ret_bool H.out.symm,HW.out⟩)
     ·have h4':(ck==4)=false:=by simpa using h4
      cases C<;>(go_wp2;go_ret;exact⟨ret_bool H.out.symm,HW.out⟩)
   ·have g1':¬1≤(wd.size:Int):=g1;have H:=hide' (show A=false by rw[HH.out,withinB_f (by omega)];simp);clear HH;by_cases h4:ck=4
    ·subst h4;cases C<;>(go_wp2;go_ret;exact⟨ret_bool H.out.symm,HW.out⟩)
    ·have h4':(ck==4)=false:=by simpa using h4
     cases C<;>(go_wp2;go_ret;exact⟨ret_bool H.out.symm,HW.out⟩)
theorem refanswer_get (a:Option Addr)(n c:Nat)(val cw:ByteArray)(ft:Bool)(cid:Int)(fa va:Option Addr)(fn fc vn vc:Nat)(bs:List Bool)(vs:List ByteArray)(wd:ByteArray)(w:World)(hf:BoolsIn w fa fn fc bs)(hv:StrsIn w va vn vc vs)(hn4:n≤4)(F:Bool)(HE:Hid (F=findsB bs vs n))(HC:Hid (∀x y,Calls Tryz.prog 139 #[.agg #[.int .i64 1,.slice a n c,.string val,.string cw,.bool ft,.int .i64 cid]] ((w.alloc x).alloc y) fun e w'=>e= .returned (.bool true)∧Below ((w.alloc x).alloc y).heap.size ((w.alloc x).alloc y) w')):Calls Tryz.prog 144 #[.agg #[.int .i64 1,.slice a n c,.string val,.string cw,.bool ft,.int .i64 cid],.agg #[.int .i64 1,.slice fa fn fc,.slice va vn vc,.string wd]] w fun e w'=>e= .returned (.bool F)∧Below w.heap.size w w':=by
 have HB2:=hide' (show∀x y,Below w.heap.size w ((w.alloc x).alloc y)from fun x y=>((Below.refl _ _).alloc (Nat.le_refl _) _).alloc (by simp) _);have hfl:=hf.len;have hvl:=hv.len;have hfs:=hf.small;have hvs:=hv.small;have hfc:=hf.cap;have hvc:=hv.cap;have HF:=hide' (fun W hW=>(hf.later (w':=W) hW).at);have HV:=hide' (fun W hW=>(hv.later (w':=W) hW).at);have HS:=hide' hv.sizes;have HBad:=hide' (show∀(i:Nat) (f:Bool) (x:ByteArray),bs[i]?=some f→vs[i]?=some x→findOk (f,x)=false→F=false from fun i f x a b c=>HE.out.trans (findsB_bad a b c));have HGood:=hide' (show bs.length=n→vs.length=n→((bs.zip vs).take bs.length).all findOk=true→F=true from fun a b h=>by
  rw[HE.out];unfold findsB;rw[List.take_of_length_le (by simp;omega)]at h;simp[a,b,h])
 have HNo:=hide' (show¬(bs.length=n∧vs.length=n)→F=false from fun h=>by
  rw[HE.out];unfold findsB;by_cases a:bs.length=n
  ·by_cases b:vs.length=n
   ·exact absurd ⟨a,b⟩ h
   ·have:¬((vs.length:Int)=n):=by omega
    simp[this]
  ·have:¬((bs.length:Int)=n):=by omega
   simp[this])
 clear hf hv HE;subst hfl hvl;generalize hFL:bs.length=fl at*;have HFL:=hide' hFL;clear hFL;generalize hVL:vs.length=vl at*;have HVL:=hide' hVL;clear hVL;by_cases g1:fl=n
 ·by_cases g2:vl=n
  ·subst g1;subst g2;have HG:=hide' (HGood.out rfl rfl);clear HNo HGood;go_enter Tryz.func144,Tryz.ntmps144;go_wp2_with fail
   go_at_call 139;refine(HC.out _ _).mono ?_;rintro e w1 ⟨rfl,hb1⟩;have hW:=(HB2.out _ _).trans (hb1.mono (by simp;omega));have k0:=(hb1.cell (p:=⟨w.heap.size,0,none⟩) (by simp;omega))
   have k1c:=(hb1.cell (p:=⟨w.heap.size,1,none⟩) (by simp;omega))
   have m0:=(hb1.cell (p:=⟨w.heap.size+1,0,none⟩) (by simp))
   have m1:=(hb1.cell (p:=⟨w.heap.size+1,1,none⟩) (by simp))
   have m2:=(hb1.cell (p:=⟨w.heap.size+1,2,none⟩) (by simp))
   have m3:=(hb1.cell (p:=⟨w.heap.size+1,3,none⟩) (by simp))
   have HW:=hide' hW;clear hb1 hW HC HB2;go_wp2;go_loop [7] (fun i=>∃j:Nat,j≤vl∧i= .int .i64 j∧Hid (((bs.zip vs).take j).all findOk=true)) (fun i=>vl-(intOf i).toNat)
   case atStart=>exact⟨0,Nat.zero_le _,rfl,(by show _=_;simp)⟩
   case round=>
    obtain⟨j,hj,rfl,hall⟩:=hrel;by_cases hlt:j<vl
    ·obtain⟨f,hf⟩:∃f,bs[j]?=some f:=⟨bs[j]'(by rw[HFL.out];exact hlt),List.getElem?_eq_getElem _⟩
     obtain⟨x,hx⟩:∃x,vs[j]?=some x:=⟨vs[j]'(by rw[HVL.out];exact hlt),List.getElem?_eq_getElem _⟩
     obtain⟨fb,fo,rfl,hfb,hfcell⟩:=HF.out w1 HW.out j f hf;obtain⟨vb,vo,rfl,hvb,hvcell⟩:=HV.out w1 HW.out j x hx;have hm:=HS.out x (List.mem_of_getElem? hx);unfold maxLen at hm;have HN:Hid (findOk (f,x)=true→((bs.zip vs).take (j+1)).all findOk=true):=fun h=>zip_take_step hf hx hall.out h
     have HO:Hid (findOk (f,x)=false→F=false):=fun h=>HBad.out j f x hf hx h
     clear hf hx HF HV HS HBad HG hall;by_cases h40:(x.size:Int)≤40
     ·have h40':¬40<(x.size:Int):=by omega
      cases f with
      |true=>
       have HH:=hide' (HN.out (by simp[findOk,h40]));clear HN HO;go_wp2;go_round
       case rel=>exact⟨j+1,by omega,by go_num,HH⟩
       case measure=>simp[intOf];omega
      |false=>
       by_cases hxe:x=⟨#[]⟩
       ·subst hxe;have HH:=hide' (HN.out (by decide));clear HN HO;go_wp2;go_round
        case rel=>exact⟨j+1,by omega,by go_num,HH⟩
        case measure=>simp[intOf];omega
       ·have HH:=hide' (HO.out (by
         have:x.data.toList≠[]:=fun h=>hxe (ba_ext h)
         simp[findOk];intro _;simpa using this))
        have hne:x.toList.isEmpty=false:=by
         cases h:x.toList.isEmpty
         ·rfl
         ·exact absurd (empty_of_size (emptyB h)) hxe
        clear HN HO;go_wp2;go_ret;exact⟨ret_bool HH.out.symm,HW.out⟩
     ·have HH:=hide' (HO.out (by simp[findOk];omega));have h40':40<(x.size:Int):=by omega
      clear HN HO h40;go_wp2;go_ret;exact⟨ret_bool HH.out.symm,HW.out⟩
    ·have hj2:j=vl:=by omega
     subst hj2;have HH:=hide' (HG.out hall.out);go_wp2;go_ret;exact⟨ret_bool HH.out.symm,HW.out⟩
  ·have b':((vl:Int) != n)=true:=by simp;omega
   have HH:=hide' (HNo.out (fun h=>g2 h.2));subst g1;clear HNo HGood HBad g2;go_enter Tryz.func144,Tryz.ntmps144;go_wp2_with fail
   go_at_call 139;refine(HC.out _ _).mono ?_;rintro e w1 ⟨rfl,hb1⟩;have hW:=(HB2.out _ _).trans (hb1.mono (by simp;omega));have k0:=(hb1.cell (p:=⟨w.heap.size,0,none⟩) (by simp;omega))
   have k1c:=(hb1.cell (p:=⟨w.heap.size,1,none⟩) (by simp;omega))
   have m0:=(hb1.cell (p:=⟨w.heap.size+1,0,none⟩) (by simp))
   have m1:=(hb1.cell (p:=⟨w.heap.size+1,1,none⟩) (by simp))
   have m2:=(hb1.cell (p:=⟨w.heap.size+1,2,none⟩) (by simp))
   have m3:=(hb1.cell (p:=⟨w.heap.size+1,3,none⟩) (by simp))
   have HW:=hide' hW;clear hb1 hW HC HB2;go_wp2;go_ret;exact⟨ret_bool HH.out.symm,HW.out⟩
 ·have a':((fl:Int) != n)=true:=by simp;omega
  have HH:=hide' (HNo.out (fun h=>g1 h.1));clear HNo HGood HBad g1;go_enter Tryz.func144,Tryz.ntmps144;go_wp2_with fail
  go_at_call 139;refine(HC.out _ _).mono ?_;rintro e w1 ⟨rfl,hb1⟩;have hW:=(HB2.out _ _).trans (hb1.mono (by simp;omega));have k0:=(hb1.cell (p:=⟨w.heap.size,0,none⟩) (by simp;omega))
  have k1c:=(hb1.cell (p:=⟨w.heap.size,1,none⟩) (by simp;omega))
  have m0:=(hb1.cell (p:=⟨w.heap.size+1,0,none⟩) (by simp))
  have m1:=(hb1.cell (p:=⟨w.heap.size+1,1,none⟩) (by simp))
  have m2:=(hb1.cell (p:=⟨w.heap.size+1,2,none⟩) (by simp))
  have m3:=(hb1.cell (p:=⟨w.heap.size+1,3,none⟩) (by simp))
  have HW:=hide' hW;clear hb1 hW HC HB2;go_wp2;go_ret;exact⟨ret_bool HH.out.symm,HW.out⟩
theorem refanswer_else (ck:Int)(a:Option Addr)(n c:Nat)(ss:List ByteArray)(val cw:ByteArray)(ft:Bool)(cid:Int)(ak:Int)(fa va:Option Addr)(fn fc vn vc:Nat)(bs:List Bool)(vs:List ByteArray)(wd:ByteArray)(w:World)(hs:StrsIn w a n c ss)(hval:val.size≤maxLen)(hf:BoolsIn w fa fn fc bs)(hv:StrsIn w va vn vc vs)(h5:ak≠5):Calls Tryz.prog 144 #[cmdV6 ck (.slice a n c) val cw ft cid,ansV ak (.slice fa fn fc) (.slice va vn vc) wd] w fun e w'=>e= .returned (.bool (answerB ck ss val ak bs vs wd))∧Below w.heap.size w w':=by
 have HB2:=hide' (show∀x y,Below w.heap.size w ((w.alloc x).alloc y)from fun x y=>((Below.refl _ _).alloc (Nat.le_refl _) _).alloc (by simp) _);have HC:Hid (∀x y,Calls Tryz.prog 139 #[cmdV6 ck (.slice a n c) val cw ft cid] ((w.alloc x).alloc y) fun e w'=>e= .returned (.bool (cmdB ck ss val))∧Below ((w.alloc x).alloc y).heap.size ((w.alloc x).alloc y) w'):=fun x y=>refcmd_any ck (.slice a n c) ss val cw ft cid _ (hs.later (HB2.out x y)).strs hval
 have HA:=hide' (show answerB ck ss val ak bs vs wd=((decide (ck=4) || cmdB ck ss val)&&(if ak=1 then decide (ck=1)&&findsB bs vs ss.length else if ak=2 then decide (ck=2)else if ak=3∨ak=4 then decide (ck=3)else if ak=5 then wordB wd else false))from rfl);have HK:Hid (cmdB ck ss val=true→ck=1∨ck=2∨ck=3):=fun h=>(right_of h).kind
 have HR:Hid (cmdB ck ss val=true→ss.length≤4):=fun h=>(right_of h).len4
 have h5':(ak==5)=false:=by simpa using h5
 rw[hs.len]at HA HR;generalize answerB ck ss val ak bs vs wd=A at*;generalize cmdB ck ss val=C at*;clear hs hval;unfold cmdV6 ansV at*;cases C with
 |false=>
  have H:=hide' (show A=false by
   rw[HA.out];by_cases h4:ck=4
   ·subst h4;simp[h5]
   ·simp[h4])
  clear HA HK HR;go_enter Tryz.func144,Tryz.ntmps144;go_wp2_with fail
  go_at_call 139;refine(HC.out _ _).mono ?_;rintro e w1 ⟨rfl,hb1⟩;have hW:=(HB2.out _ _).trans (hb1.mono (by simp;omega));have k0:=(hb1.cell (p:=⟨w.heap.size,0,none⟩) (by simp;omega))
  have k1c:=(hb1.cell (p:=⟨w.heap.size,1,none⟩) (by simp;omega))
  have m0:=(hb1.cell (p:=⟨w.heap.size+1,0,none⟩) (by simp))
  have m1:=(hb1.cell (p:=⟨w.heap.size+1,1,none⟩) (by simp))
  have m2:=(hb1.cell (p:=⟨w.heap.size+1,2,none⟩) (by simp))
  have m3:=(hb1.cell (p:=⟨w.heap.size+1,3,none⟩) (by simp))
  have HW:=hide' hW;clear hb1 hW HC HB2;go_wp2;go_ret;exact⟨ret_bool H.out.symm,HW.out⟩
 |true=>
  have hck:=HK.out rfl;have hn4:=HR.out rfl;have HA2:=hide' (show A=(if ak=1 then decide (ck=1)&&findsB bs vs n else if ak=2 then decide (ck=2)else if ak=3∨ak=4 then decide (ck=3)else false)by rw[HA.out];simp[h5]);clear HA HK HR;rcases hck with rfl|rfl|rfl
  ·by_cases k1:ak=1
   ·subst k1;have HG:=hide' (show A=findsB bs vs n by rw[HA2.out];simp);clear HA2;exact refanswer_get a n c val cw ft cid fa va fn fc vn vc bs vs wd w hf hv hn4 A HG HC
   ·have k1':(ak != 1)=true:=by simpa using k1
    have H:=hide' (show A=false by rw[HA2.out];simp[k1]);clear HA2;go_enter Tryz.func144,Tryz.ntmps144;go_wp2_with fail
    go_at_call 139;refine(HC.out _ _).mono ?_;rintro e w1 ⟨rfl,hb1⟩;have hW:=(HB2.out _ _).trans (hb1.mono (by simp;omega));have k0:=(hb1.cell (p:=⟨w.heap.size,0,none⟩) (by simp;omega))
    have k1c:=(hb1.cell (p:=⟨w.heap.size,1,none⟩) (by simp;omega))
    have m0:=(hb1.cell (p:=⟨w.heap.size+1,0,none⟩) (by simp))
    have m1:=(hb1.cell (p:=⟨w.heap.size+1,1,none⟩) (by simp))
    have m2:=(hb1.cell (p:=⟨w.heap.size+1,2,none⟩) (by simp))
    have m3:=(hb1.cell (p:=⟨w.heap.size+1,3,none⟩) (by simp))
    have HW:=hide' hW;clear hb1 hW HC HB2;go_wp2;go_ret;exact⟨ret_bool H.out.symm,HW.out⟩
  ·have H:=hide' (show A=(ak==2)by
    rw[HA2.out,beqZ];by_cases k1:ak=1
    ·subst k1;simp
    ·by_cases k2:ak=2
     ·subst k2;simp
     ·simp[k1,k2])
   clear HA2;go_enter Tryz.func144,Tryz.ntmps144;go_wp2_with fail
   go_at_call 139;refine(HC.out _ _).mono ?_;rintro e w1 ⟨rfl,hb1⟩;have hW:=(HB2.out _ _).trans (hb1.mono (by simp;omega));have k0:=(hb1.cell (p:=⟨w.heap.size,0,none⟩) (by simp;omega))
   have k1c:=(hb1.cell (p:=⟨w.heap.size,1,none⟩) (by simp;omega))
   have m0:=(hb1.cell (p:=⟨w.heap.size+1,0,none⟩) (by simp))
   have m1:=(hb1.cell (p:=⟨w.heap.size+1,1,none⟩) (by simp))
   have m2:=(hb1.cell (p:=⟨w.heap.size+1,2,none⟩) (by simp))
   have m3:=(hb1.cell (p:=⟨w.heap.size+1,3,none⟩) (by simp))
   have HW:=hide' hW;clear hb1 hW HC HB2;go_wp2;go_ret;exact⟨ret_bool H.out.symm,HW.out⟩
  ·by_cases k3:ak=3
   ·subst k3;have H:=hide' (show A=true by rw[HA2.out];simp);clear HA2;go_enter Tryz.func144,Tryz.ntmps144;go_wp2_with fail
    go_at_call 139;refine(HC.out _ _).mono ?_;rintro e w1 ⟨rfl,hb1⟩;have hW:=(HB2.out _ _).trans (hb1.mono (by simp;omega));have k0:=(hb1.cell (p:=⟨w.heap.size,0,none⟩) (by simp;omega))
    have k1c:=(hb1.cell (p:=⟨w.heap.size,1,none⟩) (by simp;omega))
    have m0:=(hb1.cell (p:=⟨w.heap.size+1,0,none⟩) (by simp))
    have m1:=(hb1.cell (p:=⟨w.heap.size+1,1,none⟩) (by simp))
    have m2:=(hb1.cell (p:=⟨w.heap.size+1,2,none⟩) (by simp))
    have m3:=(hb1.cell (p:=⟨w.heap.size+1,3,none⟩) (by simp))
    have HW:=hide' hW;clear hb1 hW HC HB2;go_wp2;go_ret;exact⟨ret_bool H.out.symm,HW.out⟩
   ·have k3':(ak==3)=false:=by simpa using k3
    have H:=hide' (show A=(ak==4)by
     rw[HA2.out,beqZ];by_cases k1:ak=1
     ·subst k1;simp
     ·by_cases k2:ak=2
      ·subst k2;simp
      ·by_cases k4:ak=4
       ·subst k4;simp
       ·simp[k1,k2,k3,k4])
    clear HA2;go_enter Tryz.func144,Tryz.ntmps144;go_wp2_with fail
    go_at_call 139;refine(HC.out _ _).mono ?_;rintro e w1 ⟨rfl,hb1⟩;have hW:=(HB2.out _ _).trans (hb1.mono (by simp;omega));have k0:=(hb1.cell (p:=⟨w.heap.size,0,none⟩) (by simp;omega))
    have k1c:=(hb1.cell (p:=⟨w.heap.size,1,none⟩) (by simp;omega))
    have m0:=(hb1.cell (p:=⟨w.heap.size+1,0,none⟩) (by simp))
    have m1:=(hb1.cell (p:=⟨w.heap.size+1,1,none⟩) (by simp))
    have m2:=(hb1.cell (p:=⟨w.heap.size+1,2,none⟩) (by simp))
    have m3:=(hb1.cell (p:=⟨w.heap.size+1,3,none⟩) (by simp))
    have HW:=hide' hW;clear hb1 hW HC HB2;go_wp2;go_ret;exact⟨ret_bool H.out.symm,HW.out⟩
theorem refanswer_any (ck:Int)(a:Option Addr)(n c:Nat)(ss:List ByteArray)(val cw:ByteArray)(ft:Bool)(cid:Int)(ak:Int)(fa va:Option Addr)(fn fc vn vc:Nat)(bs:List Bool)(vs:List ByteArray)(wd:ByteArray)(w:World)(hs:StrsIn w a n c ss)(hval:val.size≤maxLen)(hf:BoolsIn w fa fn fc bs)(hv:StrsIn w va vn vc vs)(hw:wd.size≤maxLen):Calls Tryz.prog 144 #[cmdV6 ck (.slice a n c) val cw ft cid,ansV ak (.slice fa fn fc) (.slice va vn vc) wd] w fun e w'=>e= .returned (.bool (answerB ck ss val ak bs vs wd))∧Below w.heap.size w w':=by
 by_cases h5:ak=5
 ·subst h5;exact refanswer_fail ck a n c ss val cw ft cid _ _ bs vs wd w hs hval hw
 ·exact refanswer_else ck a n c ss val cw ft cid ak fa va fn fc vn vc bs vs wd w hs hval hf hv h5
end Go.Proofs.YtlonjggfnleolaaGreatDoor
