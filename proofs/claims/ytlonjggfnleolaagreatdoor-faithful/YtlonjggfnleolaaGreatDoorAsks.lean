import Derived.Test.YtlonjggfnleolaaGreatDoorLists
namespace Go.Proofs.YtlonjggfnleolaaGreatDoor
open Go.RowKit
set_option linter.unusedVariables false
set_option maxHeartbeats 1000000
set_option maxRecDepth 20000
variable {w:World}{a:Option Addr}{n c:Nat}{ss:List ByteArray}
theorem of_other (d:Int)(w:World)(h1:d≠1)(h2:d≠2)(h3:d≠3):Calls Tryz.prog 47 #[.int .i64 d] w fun e w'=>e= .returned (.tuple #[.nilIface,.bool false])∧w'=w:=by
 have g1:(d==1)=false:=by simpa using h1
 have g2:(d==2)=false:=by simpa using h2
 have g3:(d==3)=false:=by simpa using h3
 go_enter Tryz.func47,Tryz.ntmps47;go_wp2;go_ret2;exact⟨rfl,rfl⟩
structure StrsIn (w:World)(a:Option Addr)(n c:Nat)(ss:List ByteArray):Prop where
 len:ss.length=n
 cap:n≤c
 small:ss.length≤140737488355328
 sizes:∀s∈ss,s.size≤maxLen
 form:(∃b o,a=some ⟨b,o,none⟩∧b<w.heap.size∧∀(i:Nat) (s:ByteArray),ss[i]?=some s→w.cell? ⟨b,o+i,none⟩=some (.string s))∨(ss=[]∧c=0)
theorem StrsIn.strs (h:StrsIn w a n c ss):StrsAt w (.slice a n c) ss:=by
 obtain⟨hl,hc,sm,sz,hf⟩:=h;refine⟨?_,sm,sz⟩;rcases hf with⟨b,o,rfl,hb,hcell⟩|⟨rfl,rfl⟩
 ·exact .inl ⟨b,o,c,by rw[hl],hb,hcell⟩
 ·simp at hl;subst hl;exact .inr ⟨a,rfl,rfl⟩
theorem StrsIn.later {w':World}(h:StrsIn w a n c ss)(hb:Below w.heap.size w w'):StrsIn w' a n c ss:=by
 obtain⟨hl,hc,sm,sz,hf⟩:=h;refine⟨hl,hc,sm,sz,?_⟩;rcases hf with⟨b,o,rfl,hlt,hcell⟩|h
 ·exact .inl ⟨b,o,rfl,Nat.lt_of_lt_of_le hlt hb.size,fun i s hs=>(hb.cell (p:=⟨b,o+i,none⟩) hlt).trans (hcell i s hs)⟩
 ·exact .inr h
def dialB (d:Int):Bool:=decide (d=1) || decide (d=2) || decide (d=3)
def sayB (d k:Int)(n:Nat)(id:Int):Bool:=dialB d&&(decide (d≠2) || frSayB k n id)
def askS (d k:Int)(ss:List ByteArray)(val:ByteArray)(id:Int):ByteArray:=
 if d=1 then linesAskB k ss val else if d=2 then headB 1 k (ss.headD ⟨#[]⟩).size val.size id++ss.headD ⟨#[]⟩++val else⟨(listsAskL (nameB k::ss++if k=2 then [val]else [])).toArray⟩
theorem lsAsk (k:Int)(b o c:Nat)(ss:List ByteArray)(val wd:ByteArray)(ft:Bool)(cid id:Int)(w:World)(R:Right k ss val)(hb:b<w.heap.size)(hcap:ss.length≤c)(hc:∀(j:Nat) x,ss[j]?=some x→w.cell? ⟨b,o+j,none⟩=some (.string x)):Calls Tryz.prog 249 #[.agg #[],cmdV6 k (.slice (some ⟨b,o,none⟩) ss.length c) val wd ft cid,.int .i64 id] w fun e w'=>e= .returned (.string ⟨(listsAskL (nameB k::ss++if k=2 then [val]else [])).toArray⟩)∧Below w.heap.size w w':=by
 match ss,R,hcap,hc with
 | [],R,_,_=>exact absurd R.len1 (by simp)
 | [a],R,hcap,hc=>exact lsAsk1 k b o c a val wd ft cid id w R hb hcap (hc 0 a rfl)
 | [a0,a1],R,hcap,hc=>
  have hk:k=1:=Classical.byContradiction fun h=>by have:=R.one h;simp at this
  subst hk;exact lsAsk2 b o c a0 a1 val wd ft cid id w R hb hcap (hc 0 a0 rfl) (hc 1 a1 rfl)
 | [a0,a1,a2],R,hcap,hc=>
  have hk:k=1:=Classical.byContradiction fun h=>by have:=R.one h;simp at this
  subst hk;exact lsAsk3 b o c a0 a1 a2 val wd ft cid id w R hb hcap (hc 0 a0 rfl) (hc 1 a1 rfl) (hc 2 a2 rfl)
 | [a0,a1,a2,a3],R,hcap,hc=>
  have hk:k=1:=Classical.byContradiction fun h=>by have:=R.one h;simp at this
  subst hk;exact lsAsk4 b o c a0 a1 a2 a3 val wd ft cid id w R hb hcap (hc 0 a0 rfl) (hc 1 a1 rfl) (hc 2 a2 rfl) (hc 3 a3 rfl)
 |_::_::_::_::_::_,R,_,_=>exact absurd R.len4 (by simp)
theorem m_canSay1' (w:World):(method 432 160 (.agg #[]) "CanSay").run Tryz.prog w= .ok (210,.agg #[]) w:=by kernel_rfl
theorem m_ask1' (w:World):(method 432 160 (.agg #[]) "Ask").run Tryz.prog w= .ok (209,.agg #[]) w:=by kernel_rfl
theorem m_canSay2 (w:World):(method 432 161 (.agg #[]) "CanSay").run Tryz.prog w= .ok (243,.agg #[]) w:=by kernel_rfl
theorem m_ask2 (w:World):(method 432 161 (.agg #[]) "Ask").run Tryz.prog w= .ok (170,.agg #[]) w:=by kernel_rfl
theorem m_canSay3 (w:World):(method 432 162 (.agg #[]) "CanSay").run Tryz.prog w= .ok (250,.agg #[]) w:=by kernel_rfl
theorem m_ask3 (w:World):(method 432 162 (.agg #[]) "Ask").run Tryz.prog w= .ok (249,.agg #[]) w:=by kernel_rfl
theorem ask_bad1 (k:Int)(a:Option Addr)(n c:Nat)(ss:List ByteArray)(val wd:ByteArray)(ft:Bool)(cid id:Int)(w:World)(hs:StrsIn w a n c ss)(hv:val.size≤maxLen)(hcb:cmdB k ss val=false):Calls Tryz.prog 21 #[.int .i64 1,cmdV6 k (.slice a n c) val wd ft cid,.int .i64 id] w fun e w'=>e= .returned (.tuple #[.string ⟨#[]⟩,.int .i64 1])∧Below w.heap.size w w':=by
 have hBa:∀x,Below w.heap.size w (w.alloc x):=fun x=>(Below.refl _ _).alloc (Nat.le_refl _) _
 have HBa:=hide' hBa;clear hBa;have HC:Hid (∀x,Calls Tryz.prog 48 #[cmdV6 k (.slice a n c) val wd ft cid] (w.alloc x) fun e w'=>e= .returned (.bool false)∧Below (w.alloc x).heap.size (w.alloc x) w'):=fun x=>by have:=cmd_any k (.slice a n c) ss val wd ft cid _ (hs.later (HBa.out x)).strs hv;rwa [hcb]at this
 clear hs hv hcb;unfold cmdV6 at*;go_enter Tryz.func21,Tryz.ntmps21;go_wp2_with fail
 go_at_call 47;refine(of1 _).mono ?_;rintro e w' ⟨rfl,hw⟩;subst hw;go_wp2_with fail
 go_at_call 48;refine(HC.out _).mono ?_;rintro e w1 ⟨rfl,hb1⟩;have H1:=hide' hb1;clear hb1;go_wp2;go_ret2;exact⟨rfl,(HBa.out _).trans (H1.out.mono (by simp))⟩
theorem ask_good1 (k:Int)(a:Option Addr)(n c:Nat)(ss:List ByteArray)(val wd:ByteArray)(ft:Bool)(cid id:Int)(w:World)(hs:StrsIn w a n c ss)(hv:val.size≤maxLen)(hcb:cmdB k ss val=true)(out:ByteArray)(hcan:true=true)(HA:∀W,StrsIn W a n c ss→Calls Tryz.prog 209 #[.agg #[],cmdV6 k (.slice a n c) val wd ft cid,.int .i64 id] W fun e w'=>e= .returned (.string out)∧Below W.heap.size W w'):Calls Tryz.prog 21 #[.int .i64 1,cmdV6 k (.slice a n c) val wd ft cid,.int .i64 id] w fun e w'=>e= .returned (.tuple #[.string out,.int .i64 0])∧Below w.heap.size w w':=by
 have hBa:∀x,Below w.heap.size w (w.alloc x):=fun x=>(Below.refl _ _).alloc (Nat.le_refl _) _
 have HBa:=hide' hBa;clear hBa;have HC:Hid (∀x,Calls Tryz.prog 48 #[cmdV6 k (.slice a n c) val wd ft cid] (w.alloc x) fun e w'=>e= .returned (.bool true)∧Below (w.alloc x).heap.size (w.alloc x) w'):=fun x=>by have:=cmd_any k (.slice a n c) ss val wd ft cid _ (hs.later (HBa.out x)).strs hv;rwa [hcb]at this
 have HCan:Hid (∀W,Calls Tryz.prog 210 #[.agg #[],cmdV6 k (.slice a n c) val wd ft cid,.int .i64 id] W fun e w'=>e= .returned (.bool true)∧Below W.heap.size W w'):=fun W=>canSay1' _ id W
 have HAA:Hid (∀W,Below w.heap.size w W→Calls Tryz.prog 209 #[.agg #[],cmdV6 k (.slice a n c) val wd ft cid,.int .i64 id] W fun e w'=>e= .returned (.string out)∧Below W.heap.size W w'):=fun W hW=>HA W (hs.later hW)
 have hm1:=m_canSay1';have hm2:=m_ask1';clear hs hv hcb HA hcan;unfold cmdV6 at*;go_enter Tryz.func21,Tryz.ntmps21;go_wp2_with fail
 go_at_call 47;refine(of1 _).mono ?_;rintro e w' ⟨rfl,hw⟩;subst hw;go_wp2_with fail
 go_at_call 48;refine(HC.out _).mono ?_;rintro e w1 ⟨rfl,hb1⟩;obtain⟨hc1,hf1⟩:=bcell hb1;have hz1:w.heap.size<w1.heap.size:=by have:=hb1.size;simp at this;omega
 have H1:=hide' hb1;clear hb1;go_wp2_with fail
 go_at_call 210;refine(HCan.out _).mono ?_;rintro e w2 ⟨rfl,hb2⟩;obtain⟨hc2,hf2⟩:=bcell hb2;have hz2:w.heap.size<w2.heap.size:=by have:=hb2.size;omega
 have H2:=hide' hb2;clear hb2;go_wp2_with fail
 go_at_call 209;have q1:Below w.heap.size w w1:=(HBa.out _).trans (H1.out.mono (by simp));have q2:Below w.heap.size w w2:=q1.trans (H2.out.mono q1.size);refine(HAA.out _ q2).mono ?_;rintro e w3 ⟨rfl,hb3⟩;have H3:=hide' (q2.trans (hb3.mono q2.size));clear q1 q2 hb3;go_wp2;go_ret2;exact⟨rfl,H3.out⟩
theorem ask_bad2 (k:Int)(a:Option Addr)(n c:Nat)(ss:List ByteArray)(val wd:ByteArray)(ft:Bool)(cid id:Int)(w:World)(hs:StrsIn w a n c ss)(hv:val.size≤maxLen)(hcb:cmdB k ss val=false):Calls Tryz.prog 21 #[.int .i64 2,cmdV6 k (.slice a n c) val wd ft cid,.int .i64 id] w fun e w'=>e= .returned (.tuple #[.string ⟨#[]⟩,.int .i64 1])∧Below w.heap.size w w':=by
 have hBa:∀x,Below w.heap.size w (w.alloc x):=fun x=>(Below.refl _ _).alloc (Nat.le_refl _) _
 have HBa:=hide' hBa;clear hBa;have HC:Hid (∀x,Calls Tryz.prog 48 #[cmdV6 k (.slice a n c) val wd ft cid] (w.alloc x) fun e w'=>e= .returned (.bool false)∧Below (w.alloc x).heap.size (w.alloc x) w'):=fun x=>by have:=cmd_any k (.slice a n c) ss val wd ft cid _ (hs.later (HBa.out x)).strs hv;rwa [hcb]at this
 clear hs hv hcb;unfold cmdV6 at*;go_enter Tryz.func21,Tryz.ntmps21;go_wp2_with fail
 go_at_call 47;refine(of2 _).mono ?_;rintro e w' ⟨rfl,hw⟩;subst hw;go_wp2_with fail
 go_at_call 48;refine(HC.out _).mono ?_;rintro e w1 ⟨rfl,hb1⟩;have H1:=hide' hb1;clear hb1;go_wp2;go_ret2;exact⟨rfl,(HBa.out _).trans (H1.out.mono (by simp))⟩
theorem ask_good2 (k:Int)(a:Option Addr)(n c:Nat)(ss:List ByteArray)(val wd:ByteArray)(ft:Bool)(cid id:Int)(w:World)(hs:StrsIn w a n c ss)(hv:val.size≤maxLen)(hcb:cmdB k ss val=true)(out:ByteArray)(hcan:(frSayB k n id)=true)(HA:∀W,StrsIn W a n c ss→Calls Tryz.prog 170 #[.agg #[],cmdV6 k (.slice a n c) val wd ft cid,.int .i64 id] W fun e w'=>e= .returned (.string out)∧Below W.heap.size W w'):Calls Tryz.prog 21 #[.int .i64 2,cmdV6 k (.slice a n c) val wd ft cid,.int .i64 id] w fun e w'=>e= .returned (.tuple #[.string out,.int .i64 0])∧Below w.heap.size w w':=by
 have hBa:∀x,Below w.heap.size w (w.alloc x):=fun x=>(Below.refl _ _).alloc (Nat.le_refl _) _
 have HBa:=hide' hBa;clear hBa;have HC:Hid (∀x,Calls Tryz.prog 48 #[cmdV6 k (.slice a n c) val wd ft cid] (w.alloc x) fun e w'=>e= .returned (.bool true)∧Below (w.alloc x).heap.size (w.alloc x) w'):=fun x=>by have:=cmd_any k (.slice a n c) ss val wd ft cid _ (hs.later (HBa.out x)).strs hv;rwa [hcb]at this
 have HCan:Hid (∀W,Calls Tryz.prog 243 #[.agg #[],cmdV6 k (.slice a n c) val wd ft cid,.int .i64 id] W fun e w'=>e= .returned (.bool true)∧Below W.heap.size W w'):=fun W=>by have:=(canSay2 k a n c val wd ft cid id W);rwa [hcan]at this
 have HAA:Hid (∀W,Below w.heap.size w W→Calls Tryz.prog 170 #[.agg #[],cmdV6 k (.slice a n c) val wd ft cid,.int .i64 id] W fun e w'=>e= .returned (.string out)∧Below W.heap.size W w'):=fun W hW=>HA W (hs.later hW)
 have hm1:=m_canSay2;have hm2:=m_ask2;clear hs hv hcb HA hcan;unfold cmdV6 at*;go_enter Tryz.func21,Tryz.ntmps21;go_wp2_with fail
 go_at_call 47;refine(of2 _).mono ?_;rintro e w' ⟨rfl,hw⟩;subst hw;go_wp2_with fail
 go_at_call 48;refine(HC.out _).mono ?_;rintro e w1 ⟨rfl,hb1⟩;obtain⟨hc1,hf1⟩:=bcell hb1;have hz1:w.heap.size<w1.heap.size:=by have:=hb1.size;simp at this;omega
 have H1:=hide' hb1;clear hb1;go_wp2_with fail
 go_at_call 243;refine(HCan.out _).mono ?_;rintro e w2 ⟨rfl,hb2⟩;obtain⟨hc2,hf2⟩:=bcell hb2;have hz2:w.heap.size<w2.heap.size:=by have:=hb2.size;omega
 have H2:=hide' hb2;clear hb2;go_wp2_with fail
 go_at_call 170;have q1:Below w.heap.size w w1:=(HBa.out _).trans (H1.out.mono (by simp));have q2:Below w.heap.size w w2:=q1.trans (H2.out.mono q1.size);refine(HAA.out _ q2).mono ?_;rintro e w3 ⟨rfl,hb3⟩;have H3:=hide' (q2.trans (hb3.mono q2.size));clear q1 q2 hb3;go_wp2;go_ret2;exact⟨rfl,H3.out⟩
theorem ask_bad3 (k:Int)(a:Option Addr)(n c:Nat)(ss:List ByteArray)(val wd:ByteArray)(ft:Bool)(cid id:Int)(w:World)(hs:StrsIn w a n c ss)(hv:val.size≤maxLen)(hcb:cmdB k ss val=false):Calls Tryz.prog 21 #[.int .i64 3,cmdV6 k (.slice a n c) val wd ft cid,.int .i64 id] w fun e w'=>e= .returned (.tuple #[.string ⟨#[]⟩,.int .i64 1])∧Below w.heap.size w w':=by
 have hBa:∀x,Below w.heap.size w (w.alloc x):=fun x=>(Below.refl _ _).alloc (Nat.le_refl _) _
 have HBa:=hide' hBa;clear hBa;have HC:Hid (∀x,Calls Tryz.prog 48 #[cmdV6 k (.slice a n c) val wd ft cid] (w.alloc x) fun e w'=>e= .returned (.bool false)∧Below (w.alloc x).heap.size (w.alloc x) w'):=fun x=>by have:=cmd_any k (.slice a n c) ss val wd ft cid _ (hs.later (HBa.out x)).strs hv;rwa [hcb]at this
 clear hs hv hcb;unfold cmdV6 at*;go_enter Tryz.func21,Tryz.ntmps21;go_wp2_with fail
 go_at_call 47;refine(of3 _).mono ?_;rintro e w' ⟨rfl,hw⟩;subst hw;go_wp2_with fail
 go_at_call 48;refine(HC.out _).mono ?_;rintro e w1 ⟨rfl,hb1⟩;have H1:=hide' hb1;clear hb1;go_wp2;go_ret2;exact⟨rfl,(HBa.out _).trans (H1.out.mono (by simp))⟩
theorem ask_good3 (k:Int)(a:Option Addr)(n c:Nat)(ss:List ByteArray)(val wd:ByteArray)(ft:Bool)(cid id:Int)(w:World)(hs:StrsIn w a n c ss)(hv:val.size≤maxLen)(hcb:cmdB k ss val=true)(out:ByteArray)(hcan:true=true)(HA:∀W,StrsIn W a n c ss→Calls Tryz.prog 249 #[.agg #[],cmdV6 k (.slice a n c) val wd ft cid,.int .i64 id] W fun e w'=>e= .returned (.string out)∧Below W.heap.size W w'):Calls Tryz.prog 21 #[.int .i64 3,cmdV6 k (.slice a n c) val wd ft cid,.int .i64 id] w fun e w'=>e= .returned (.tuple #[.string out,.int .i64 0])∧Below w.heap.size w w':=by
 have hBa:∀x,Below w.heap.size w (w.alloc x):=fun x=>(Below.refl _ _).alloc (Nat.le_refl _) _
 have HBa:=hide' hBa;clear hBa;have HC:Hid (∀x,Calls Tryz.prog 48 #[cmdV6 k (.slice a n c) val wd ft cid] (w.alloc x) fun e w'=>e= .returned (.bool true)∧Below (w.alloc x).heap.size (w.alloc x) w'):=fun x=>by have:=cmd_any k (.slice a n c) ss val wd ft cid _ (hs.later (HBa.out x)).strs hv;rwa [hcb]at this
 have HCan:Hid (∀W,Calls Tryz.prog 250 #[.agg #[],cmdV6 k (.slice a n c) val wd ft cid,.int .i64 id] W fun e w'=>e= .returned (.bool true)∧Below W.heap.size W w'):=fun W=>canSay3 _ id W
 have HAA:Hid (∀W,Below w.heap.size w W→Calls Tryz.prog 249 #[.agg #[],cmdV6 k (.slice a n c) val wd ft cid,.int .i64 id] W fun e w'=>e= .returned (.string out)∧Below W.heap.size W w'):=fun W hW=>HA W (hs.later hW)
 have hm1:=m_canSay3;have hm2:=m_ask3;clear hs hv hcb HA hcan;unfold cmdV6 at*;go_enter Tryz.func21,Tryz.ntmps21;go_wp2_with fail
 go_at_call 47;refine(of3 _).mono ?_;rintro e w' ⟨rfl,hw⟩;subst hw;go_wp2_with fail
 go_at_call 48;refine(HC.out _).mono ?_;rintro e w1 ⟨rfl,hb1⟩;obtain⟨hc1,hf1⟩:=bcell hb1;have hz1:w.heap.size<w1.heap.size:=by have:=hb1.size;simp at this;omega
 have H1:=hide' hb1;clear hb1;go_wp2_with fail
 go_at_call 250;refine(HCan.out _).mono ?_;rintro e w2 ⟨rfl,hb2⟩;obtain⟨hc2,hf2⟩:=bcell hb2;have hz2:w.heap.size<w2.heap.size:=by have:=hb2.size;omega
 have H2:=hide' hb2;clear hb2;go_wp2_with fail
 go_at_call 249;have q1:Below w.heap.size w w1:=(HBa.out _).trans (H1.out.mono (by simp));have q2:Below w.heap.size w w2:=q1.trans (H2.out.mono q1.size);refine(HAA.out _ q2).mono ?_;rintro e w3 ⟨rfl,hb3⟩;have H3:=hide' (q2.trans (hb3.mono q2.size));clear q1 q2 hb3;go_wp2;go_ret2;exact⟨rfl,H3.out⟩
theorem ask_nosay2 (k:Int)(a:Option Addr)(n c:Nat)(ss:List ByteArray)(val wd:ByteArray)(ft:Bool)(cid id:Int)(w:World)(hs:StrsIn w a n c ss)(hv:val.size≤maxLen)(hcb:cmdB k ss val=true)(hcan:frSayB k n id=false):Calls Tryz.prog 21 #[.int .i64 2,cmdV6 k (.slice a n c) val wd ft cid,.int .i64 id] w fun e w'=>e= .returned (.tuple #[.string ⟨#[]⟩,.int .i64 1])∧Below w.heap.size w w':=by
 have hBa:∀x,Below w.heap.size w (w.alloc x):=fun x=>(Below.refl _ _).alloc (Nat.le_refl _) _
 have HBa:=hide' hBa;clear hBa;have HC:Hid (∀x,Calls Tryz.prog 48 #[cmdV6 k (.slice a n c) val wd ft cid] (w.alloc x) fun e w'=>e= .returned (.bool true)∧Below (w.alloc x).heap.size (w.alloc x) w'):=fun x=>by have:=cmd_any k (.slice a n c) ss val wd ft cid _ (hs.later (HBa.out x)).strs hv;rwa [hcb]at this
 have HCan:Hid (∀W,Calls Tryz.prog 243 #[.agg #[],cmdV6 k (.slice a n c) val wd ft cid,.int .i64 id] W fun e w'=>e= .returned (.bool false)∧Below W.heap.size W w'):=fun W=>by have:=(canSay2 k a n c val wd ft cid id W);rwa [hcan]at this
 have hm1:=m_canSay2;clear hs hv hcb hcan;unfold cmdV6 at*;go_enter Tryz.func21,Tryz.ntmps21;go_wp2_with fail
 go_at_call 47;refine(of2 _).mono ?_;rintro e w' ⟨rfl,hw⟩;subst hw;go_wp2_with fail
 go_at_call 48;refine(HC.out _).mono ?_;rintro e w1 ⟨rfl,hb1⟩;obtain⟨hc1,hf1⟩:=bcell hb1;have hz1:w.heap.size<w1.heap.size:=by have:=hb1.size;simp at this;omega
 have H1:=hide' hb1;clear hb1;go_wp2_with fail
 go_at_call 243;refine(HCan.out _).mono ?_;rintro e w2 ⟨rfl,hb2⟩;have H2:=hide' hb2;clear hb2;go_wp2;go_ret2;have q1:Below w.heap.size w w1:=(HBa.out _).trans (H1.out.mono (by simp));exact⟨rfl,q1.trans (H2.out.mono q1.size)⟩
theorem ask_nodial (d k:Int)(a:Option Addr)(n c:Nat)(val wd:ByteArray)(ft:Bool)(cid id:Int)(w:World)(g1:d≠1)(g2:d≠2)(g3:d≠3):Calls Tryz.prog 21 #[.int .i64 d,cmdV6 k (.slice a n c) val wd ft cid,.int .i64 id] w fun e w'=>e= .returned (.tuple #[.string ⟨#[]⟩,.int .i64 1])∧Below w.heap.size w w':=by
 unfold cmdV6;have HO:=hide' (fun W=>of_other d W g1 g2 g3);clear g1 g2 g3;go_enter Tryz.func21,Tryz.ntmps21;go_wp2_with fail
 go_at_call 47;refine(HO.out _).mono ?_;rintro e w' ⟨rfl,hw⟩;subst hw;go_wp2;go_ret2;exact⟨rfl,(Below.refl _ _).alloc (Nat.le_refl _) _⟩
end Go.Proofs.YtlonjggfnleolaaGreatDoor
