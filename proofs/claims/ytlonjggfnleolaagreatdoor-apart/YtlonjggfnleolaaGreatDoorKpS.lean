import Derived.Test.YtlonjggfnleolaaGreatDoorKeepB
import Derived.Test.YtlonjggfnleolaaGreatDoorBnX
namespace Go.Proofs.YtlonjggfnleolaaGreatDoor
open Go.RowKit
set_option linter.unusedVariables false
theorem mk_size (l:List UInt8):(mkB l).size=l.length:=by simp[mkB,ByteArray.size]
set_option maxHeartbeats 2000000
set_option maxRecDepth 20000
variable {ss:List ByteArray}{W:World}{lo:Nat}
structure GoodC (d:Int)(c:Cmd):Prop where
 cmd:cmdB c.kind c.keys c.val=true
 word:c.word=noB
 fatal:c.fatal=false
 id:c.id=0
 one:d=2→c.keys.length=1
def asksFrom (d:Int):Nat→List Cmd→List UInt8
 |_,[]=>[]
 |i,c::cs=>(askS d c.kind c.keys c.val i).data.toList++asksFrom d (i+1) cs
theorem asksFrom_snoc (d:Int):∀(cs:List Cmd) (i:Nat) (c:Cmd),asksFrom d i (cs++[c])=asksFrom d i cs++(askS d c.kind c.keys c.val ((i+cs.length:Nat):Int)).data.toList:=by
 intro cs;induction cs with
 |nil=>intro i c;simp[asksFrom]
 |cons x cs ih=>
  intro i c;simp only[List.cons_append,asksFrom]
  rw[ih (i+1) c,List.append_assoc];have e:i+1+cs.length=i+(x::cs).length:=by simp;omega
  rw[e]
theorem ask_len {d k:Int}{val:ByteArray}{id:Int}(hd:d=1∨d=2∨d=3)(h:cmdB k ss val=true)(h2:d=2→ss.length=1∧0≤id∧id≤65535):1≤(askS d k ss val id).size∧(askS d k ss val id).size≤300:=by
 have A:=askable_of h;have R:=ask_round d k ss val id [] hd A h2;have hm:=(readR_mono [] R).2.1;rw[len_size']at hm;refine⟨hm,?_⟩;have hv:=A.val40;unfold askS;rcases hd with rfl|rfl|rfl
 ·rw[if_pos rfl,←len_size',ask_line A];have:=askWords_len A;rw[List.length_append,List.length_cons];split
  ·rw[List.length_append,len_size'];simp;omega
  ·simp;omega
 ·rw[if_neg (by decide),if_pos rfl,ByteArray.size_append,ByteArray.size_append];have e:(headB 1 k (ss.headD ⟨#[]⟩).size val.size id).size=7:=rfl;have hk:(ss.headD ⟨#[]⟩).size≤8:=by
   obtain⟨h1,_⟩:=h2 rfl;cases ss with
   |nil=>simp at h1
   |cons s l=>exact(keyB_size' (A.keys s (by simp))).2
  omega
 ·rw[if_neg (by decide),if_neg (by decide)];show(listsAskL _).toArray.size≤300;rw[List.size_toArray];unfold listsAskL;rw[List.length_append,len_size'];have h1:=starL_len (nameB k::ss++if k=2 then [val]else []).length;have h3:=textsL_len (nameB k::ss++if k=2 then [val]else []) (by
   intro t ht;rw[List.mem_append,List.mem_cons]at ht;rcases ht with(rfl|ht)|ht
   ·rw[nameB_size'];omega
   ·have:=keyB_size' (A.keys t ht);omega
   ·by_cases h2:k=2
    ·rw[if_pos h2,List.mem_singleton]at ht;rw[ht];exact hv
    ·rw[if_neg h2]at ht;cases ht)
  have h5:(nameB k::ss++if k=2 then [val]else []).length≤6:=by
   have:=A.len4;by_cases h2:k=2
   ·have:=A.one (by omega);simp[h2];omega
   ·simp[h2];omega
  omega
theorem keysIn_strs {a:Option Addr}{n c:Nat}(h:KeysIn W lo (.slice a n c) ss)(hn:n≤1000)(hs:∀s∈ss,s.size≤8):StrsIn W a n c ss:=by
 rcases h with⟨h,rfl⟩|⟨b,c',h,_,Z,hZ,hz,hl,hi⟩
 ·cases h;exact⟨rfl,Nat.le_refl _,by simp,fun s h=>(by cases h),.inr ⟨rfl,rfl⟩⟩
 ·cases h;refine⟨rfl,by omega,by omega,fun s h=>by have:=hs s h;unfold maxLen;omega,.inl ⟨b,0,rfl,blkLt hZ,fun i s hs'=>?_⟩⟩;rw[Nat.zero_add,blkCell hZ i];exact hi i s hs'
theorem CmdsIn.row {v:Value}{cs:List Cmd}{kvs:List Value}(h:W.ownsRow lo 36 6 v cs.length (cmdCells cs kvs)):∀g,v.ownBlock=some g→∀Z f,W.heap[g]?≠some (.cells Z 9 f):=by
 intro g hg Z f hZ;rcases h.2 with⟨e,_⟩|⟨g',cap,cur,e,_,h6,_⟩
 ·rw[e]at hg;cases hg
 ·rw[e]at hg;cases hg;rw[h6]at hZ;cases hZ
theorem said_own (d:Int)(cl:Nat)(a:Option Addr)(n c:Nat)(xs:List Int)(most:Nat)(w:World)(h:RawIn w a n c xs)(hd:d=1∨d=2∨d=3)(hcl:cl<4)(hm:most≤50):Calls Tryz.prog 18 #[.int .i64 d,.int .i64 (cl:Int),.slice a n c,.int .i64 (most:Int)] w fun e w'=>∃v s cs,e= .returned (.tuple #[v,.string s,.bool true])∧CmdsIn w' w.heap.size v cs∧s.data.toList=asksFrom d 0 cs∧(∀x∈cs,GoodC d x)∧cs.length≤most∧s.size≤15000∧Below w.heap.size w w'∧(∀x∈cs,∀k∈x.keys,ownK cl k):=by
 have HRaw:=hide' h;have hsm:=h.small;clear h;go_enter Tryz.func18,Tryz.ntmps18;go_wp2;go_loopw [11,12,13] (fun o s i wr=>∃(j:Nat) (cs:List Cmd) (S:ByteArray) (va:Option Addr) (vn vc:Nat),i= .int .i64 j∧s= .string S∧o= .slice va vn vc∧j≤most∧S.size≤300*j∧Hid (CmdsIn wr w.heap.size (.slice va vn vc) cs∧cs.length=j∧S.data.toList=asksFrom d 0 cs∧(∀x∈cs,GoodC d x∧∀k∈x.keys,ownK cl k)∧Below w.heap.size w wr)) (fun _ _ i _=>most-(intOf i).toNat)
 case atStart=>exact⟨0,[],⟨#[]⟩,none,0,0,rfl,rfl,rfl,Nat.zero_le _,Nat.zero_le _,CmdsIn.nil _ _,rfl,rfl,fun _ h=>(by cases h),Below.refl _ _⟩
 case round=>
  obtain⟨j,cs,S,va,vn,vc,rfl,rfl,rfl,hj,hS,HJ⟩:=hrel;by_cases hgo:5*j<n∧j<most
  ·obtain⟨g1,g2⟩:=hgo;have g1':5*(j:Int)<(n:Int):=by omega
   have g2':(j:Int)<(most:Int):=by omega
   have HC:Hid (Calls Tryz.prog 45 #[.int .i64 d,.int .i64 (cl:Int),.slice a n c,.int .i64 (5*(j:Int))] wr fun e w'=>CmdOut cl wr w' d e):=by
    have:=command_any d cl a n c xs (5*j) wr (HRaw.out.later HJ.out.2.2.2.2) hcl (by omega);have e:((5*j:Nat):Int)=5*(j:Int):=by omega
    rw[e]at this;exact this
   go_wp2_with fail
   go_at_call 45;refine HC.out.mono ?_;rintro e w5 ⟨⟨k,ka,kn,kc,val,ss,he,hki,hcb,hone,hmine⟩,hb5⟩;unfold cmdV6 at he;subst he;have A:=askable_of hcb;have HO1:=hide' hone;have HMi:=hide' hmine;clear hmine;have h2:d=2→ss.length=1∧0≤(j:Int)∧(j:Int)≤65535:=fun h=>⟨hone h,by omega,by omega⟩
   have hal:=ask_len (id:=(j:Int)) hd hcb h2;have hkl:=(keysIn_cells hki).1;have hl4:=A.len4;have hss:∀s∈ss,s.size≤8:=fun s hs=>(keyB_size' (A.keys s hs)).2
   have hsay:sayB d k kn (j:Int)=true:=by
    unfold sayB dialB frSayB;rcases hd with rfl|rfl|rfl
    ·rfl
    ·have:=hone rfl;have hk1:kn=1:=by omega
     simp[hk1];omega
    ·rfl
   have HAk:=hide' (fun W (hW:KeysIn W wr.heap.size (.slice ka kn kc) ss)=>ask_any d k ka kn kc ss val ⟨#[]⟩ false 0 (j:Int) W (keysIn_strs hW (by omega) hss) (by have:=A.val40;unfold maxLen;omega));simp only[hcb,hsay,Bool.and_true]at HAk;have hT1:=hal.1;have hT2:=hal.2;have HTL:Hid (askS d k ss val (j:Int)=askS d k ss val (j:Int)):=(show _=_ from rfl)
   generalize hTT:askS d k ss val (j:Int)=T at*;have HTT:=hide' hTT;clear hTT HTL;unfold saidV cmdV6 at HAk;simp only[cond_true]at HAk;have hT0:T.toList.isEmpty=false:=by
    cases he:T.toList.isEmpty with
    |false=>rfl
    |true=>have:=emptyB he;omega
   have hT0':(T.toList== [])=false:=by
    cases hl:T.toList with
    |nil=>rw[hl]at hT0;cases hT0
    |cons=>rfl
   have hcat:¬9223372036854775807<S.size+T.size:=by omega
   have hb5c:=HJ.out.1.below hb5;have hbw5:=HJ.out.2.2.2.2.trans (hb5.mono HJ.out.2.2.2.2.size);have H5:=hide' (And.intro hb5c (And.intro hki hbw5));have hz5:=hb5.size;have hzw:=HJ.out.2.2.2.2.size;clear hb5 hb5c hki hbw5 hss A hone h2 hsay hal HC;have hki6:KeysIn (w5.alloc (.cells #[.int .i64 k,.slice ka kn kc,.string val,.string ⟨#[]⟩,.bool false,.int .i64 0] 36)) wr.heap.size (.slice ka kn kc) ss:=H5.out.2.1.other (Nat.le_refl _) (fun b c Z hZ _ _=>Below.heap_alloc _ _ _ (blkLt hZ));have HA6:=hide' (HAk.out _ hki6);clear hki6 HAk;go_wp2_with fail
   go_at_call 21;refine HA6.out.mono ?_;rintro e w7 ⟨rfl,hb7⟩;have hbox:w7.heap[w5.heap.size]?=some (.cells #[.int .i64 k,.slice ka kn kc,.string val,.string ⟨#[]⟩,.bool false,.int .i64 0] 36 (0,0)):=(hb7.block _ (by simp)).trans (blkNew w5 _);have hB57:Below w5.heap.size w5 w7:=((Below.refl _ _).alloc (Nat.le_refl _) _).trans (hb7.mono (by simp));have v0:=blkCell hbox 0;have v1:=blkCell hbox 1;have v2:=blkCell hbox 2;have v3:=blkCell hbox 3;have v4:=blkCell hbox 4;have v5:=blkCell hbox 5;simp at v0 v1 v2 v3 v4 v5;have c7:=H5.out.1.below hB57;have k7:KeysIn w7 w.heap.size (.slice ka kn kc) ss:=H5.out.2.1.other hzw (fun b c Z hZ _ _=>hB57.block b (blkLt hZ));have B7:=H5.out.2.2.trans (hB57.mono H5.out.2.2.size)
   have hz7:=hB57.size;have hlb:=blkLt hbox;obtain⟨kvs,hc1,hc2,hcf,hc4⟩:=c7;obtain⟨i36,z36,hi,hz0,hz1,hz2,hz3⟩:=info36;have HI:=hide' (And.intro hi (And.intro hz0 (And.intro hz1 (And.intro hz2 hz3))));have HC7:=hide' (And.intro hc1 (And.intro hc2 (And.intro hcf hc4)));have HK7:=hide' (And.intro k7 B7);have HNw:=hide' (show∀(i:Nat) (u:Value),[Value.int IntKind.i64 k,.slice ka kn kc,.string val,.string ⟨#[]⟩,.bool false,.int .i64 0][i]?=some u→(w7.alloc (.cells #[.int .i64 k,.slice ka kn kc,.string val,.string ⟨#[]⟩,.bool false,.int .i64 0] 36)).cell? ((⟨w7.heap.size,0,none⟩:Addr).add i)=some u from World.news_of_block (cs:=#[.int .i64 k,.slice ka kn kc,.string val,.string ⟨#[]⟩,.bool false,.int .i64 0]) (blkNew w7 _))
   have hdl:cs.length≤50:=by have:=HJ.out.2.1;omega
   clear hb7 hbox hB57 hc1 hc2 hcf hc4 hi hz0 hz1 hz2 hz3 k7 B7 HA6;go_wp2_with (first
    |(at_builtin;refine wpList_append_own_at _ rfl _ _ _ rfl w.heap.size 36 i36 z36 6 80 Tryz.underlying28 HI.out.1 HI.out.2.1 HI.out.2.2.1 HI.out.2.2.2.1 HI.out.2.2.2.2 (by omega) (.slice va vn vc) cs.length (cmdCells cs kvs) rfl (World.ownsRow.alloc HC7.out.2.1 _) ⟨w7.heap.size,0,none⟩ 1 1 [Value.int IntKind.i64 k,.slice ka kn kc,.string val,.string ⟨#[]⟩,.bool false,.int .i64 0] rfl rfl HNw.out (by simp[Value.oneCell']) (by unfold maxLen;omega) (by omega) (by have:=HK7.out.2.size;simp;omega) ?_;intro v' w9 hown hgrow hnil hat;obtain⟨ua,un,uc,huf⟩:=own_form hown;subst huf;have HG:=hide' (And.intro hown hgrow);clear hown hgrow hnil hat)
    |fail)
   go_roundw;case rel=>
    obtain⟨hc1,hc2,hcf,hc4⟩:=HC7.out;have Ba:Below w7.heap.size w7 (w7.alloc (.cells #[.int .i64 k,.slice ka kn kc,.string val,.string ⟨#[]⟩,.bool false,.int .i64 0] 36)):=(Below.refl _ _).alloc (Nat.le_refl _) _;have hsn:CmdsIn w9 w.heap.size (.slice ua un uc) (cs++[⟨k,ss,val,noB,false,0⟩]):=
     CmdsIn.snoc (W:=w7.alloc (.cells #[.int .i64 k,.slice ka kn kc,.string val,.string ⟨#[]⟩,.bool false,.int .i64 0] 36)) (c:=⟨k,ss,val,noB,false,0⟩) hc1 hcf (fun i c kv hci hkv=>(hc4 i c kv hci hkv).other (Nat.le_refl _) (fun b c Z hZ _ _=>Ba.block b (blkLt hZ)))
      (CmdsIn.row (World.ownsRow.alloc hc2 _)) (HK7.out.1.other (Nat.le_refl _) (fun b c Z hZ _ _=>Ba.block b (blkLt hZ))) HG.out.2 HG.out.1
    have hgr:=HG.out.2;have hb9:Below w.heap.size w w9:=(HK7.out.2.alloc HK7.out.2.size _).trans ⟨hgr.os,hgr.tape,hgr.output,hgr.size,fun k' hk'=>hgr.block k' (by have:=HK7.out.2.size;simp;omega) (fun e=>by
     rcases hc2.2 with⟨e2,_⟩|⟨g',cap,cur,e2,hl,_,_⟩
     ·rw[e2]at e;cases e
     ·rw[e2]at e;have e3:k'=g':=by simpa [Value.ownBlock]using e
      omega)⟩
    refine⟨j+1,cs++[⟨k,ss,val,noB,false,0⟩],S++T,ua,un,uc,by go_num,rfl,rfl,by omega,by rw[ByteArray.size_append];omega,hsn,?_,?_,?_,hb9⟩
    ·rw[List.length_append,HJ.out.2.1];rfl
    ·rw[toList_app,HJ.out.2.2.1,asksFrom_snoc,Nat.zero_add,HJ.out.2.1];show _=_++(askS d k ss val (j:Int)).data.toList;rw[HTT.out]
    ·intro x hx;rcases List.mem_append.1 hx with h|h
     ·exact HJ.out.2.2.2.1 x h
     ·rw[List.mem_singleton]at h;subst h;exact⟨⟨hcb,rfl,rfl,rfl,fun h=>by have:=HO1.out h;exact this⟩,HMi.out⟩
   case measure=>simp[intOf];omega
  ·have hgo':=hide' hgo;clear hgo;have fin:CmdsIn wr w.heap.size (.slice va vn vc) cs∧S.data.toList=asksFrom d 0 cs∧(∀x∈cs,GoodC d x)∧cs.length≤most∧S.size≤15000∧Below w.heap.size w wr∧(∀x∈cs,∀k∈x.keys,ownK cl k):=
    ⟨HJ.out.1,HJ.out.2.2.1,fun x hx=>(HJ.out.2.2.2.1 x hx).1,by rw[HJ.out.2.1];exact hj,by omega,HJ.out.2.2.2.2,fun x hx=>(HJ.out.2.2.2.1 x hx).2⟩
   have HF:=hide' fin;clear fin;by_cases g1:5*j<n
   ·have g1':5*(j:Int)<(n:Int):=by omega
    have g2':¬(j:Int)<(most:Int):=by intro h;exact hgo'.out ⟨g1,by omega⟩
    go_wp2;go_ret3
    exact⟨.slice va vn vc,S,rfl,cs,HF.out⟩
   ·have g1':¬5*(j:Int)<(n:Int):=by omega
    go_wp2;go_ret3
    exact⟨.slice va vn vc,S,rfl,cs,HF.out⟩
end Go.Proofs.YtlonjggfnleolaaGreatDoor
namespace Go.Proofs.YtlonjggfnleolaaGreatDoor
open Go.RowKit Go.Shelf
set_option linter.unusedVariables false
def cmdN (d:Int)(n:Nat)(c:Cmd):Cmd:=⟨c.kind,c.keys,c.val,noB,false,if d=2 then(n:Int)else 0⟩
def CmQ (d:Int)(cs:List Cmd)(Q:Int→PS→Prop)(qs:List QS)(a:Nat):Prop:=∀(k:Nat) (x:QS),qs[k]?=some x→∃c,cs[a+k]?=some c∧x.c=cmdN d (a+k) c∧x.ps.length=c.keys.length∧∀p∈x.ps,Q c.kind p
structure CInv (d:Int)(cs:List Cmd)(rest:List UInt8)(Q:Int→PS→Prop)(P:List UInt8→Nat→Prop)(s:CliQ)(a:Nat):Prop where
 di:s.d=d
 ps0:s.st.pass=false
 cl0:s.st.closed=false
 cm:CmQ d cs Q s.qs a
 tx:s.st.held++rest=asksFrom d (a+s.qs.length) (cs.drop (a+s.qs.length))
 le:a+s.qs.length≤cs.length
 td:P s.told a
def HeadO (qs:List QS):Prop:=∀x l,qs=x::l→x.n≠0
section
variable {d:Int}{cs:List Cmd}{rest:List UInt8}{Q:Int→PS→Prop}{P:List UInt8→Nat→Prop}{s:CliQ}{a:Nat}
theorem CInv.read (h:CInv d cs rest Q P s a)(hd:d=1∨d=2∨d=3)(hg:∀x∈cs,GoodC d x)(hl:cs.length≤65535){x:StepR}(hr:readR s.d s.st.held=some x):∃c,cs[a+s.qs.length]?=some c∧x.c=cmdN d (a+s.qs.length) c∧afterS s.st x=⟨s.st.held.drop x.used,false,false⟩∧s.st.held.drop x.used++rest=asksFrom d (a+s.qs.length+1) (cs.drop (a+s.qs.length+1)):=by
 rw[h.di]at hr;obtain⟨m1,m2,m3⟩:=readR_mono rest hr;have hle:=h.le;have ht:=h.tx;rw[ht]at m1;generalize hn:a+s.qs.length=n at*;by_cases hlt:n<cs.length
 ·have hc:cs[n]?=some cs[n]:=List.getElem?_eq_getElem hlt;have hdr:cs.drop n=cs[n]::cs.drop (n+1):=List.drop_eq_getElem_cons hlt;have g:=hg cs[n] (List.getElem_mem hlt);rw[hdr]at m1 ht;have hk:=ask_round d cs[n].kind cs[n].keys cs[n].val (n:Int) (asksFrom d (n+1) (cs.drop (n+1))) hd (askable_of g.cmd) (fun h2=>⟨g.one h2,by omega,by omega⟩);have hx:x=⟨⟨cs[n].kind,cs[n].keys,cs[n].val,noB,false,if d=2 then(n:Int)else 0⟩,(askS d cs[n].kind cs[n].keys cs[n].val n).data.toList.length,false⟩:=by
   have e:asksFrom d n (cs[n]::cs.drop (n+1))=(askS d cs[n].kind cs[n].keys cs[n].val n).data.toList++asksFrom d (n+1) (cs.drop (n+1)):=rfl;rw[e,hk]at m1;exact(Option.some.inj m1).symm
  refine⟨cs[n],hc,by rw[hx];rfl,?_,?_⟩
  ·unfold afterS;have f1:x.c.fatal=false:=by rw[hx]
   have f2:x.skip=false:=by rw[hx]
   rw[f1,f2,h.ps0,h.cl0];rfl
  ·have e:(s.st.held++rest).drop x.used=(asksFrom d n (cs[n]::cs.drop (n+1))).drop x.used:=by rw[ht]
   rw[List.drop_append_of_le_length m3]at e;rw[e,hx];simp only[asksFrom]
   exact List.drop_left
 ·exfalso;rw[List.drop_eq_nil_of_le (by omega)]at m1;have e:asksFrom d n []=[]:=rfl;rw[e,readR_nil]at m1;cases m1
def upAt (ss:List SrvQ)(o:Nat):Prop:=∃u,ss[o]?=some u∧u.up=true
theorem upAt_same {ss ss':List SrvQ}(h:SameIn ss ss'){o:Nat}:upAt ss o↔upAt ss' o:=by
 constructor
 ·rintro ⟨u,h1,h2⟩;obtain⟨u',e1,_,e3⟩:=h.at_ h1;exact⟨u',e1,e3.trans h2⟩
 ·rintro ⟨u,h1,h2⟩;obtain⟨u',e1,_,e3⟩:=h.2 o u h1;exact⟨u',e1,e3.symm.trans h2⟩
def NormC (win:Nat)(s:CliQ):Prop:=HeadO s.qs∧(s.qs.length<win→readR s.d s.st.held=none)
end
structure Ply where
 d:Nat→Int
 cs:Nat→List Cmd
 Q:Nat→Int→PS→Prop
 P:Nat→List UInt8→Nat→Prop
section
variable {p:Ply}{sv pt win:Nat}{rest:Nat→List UInt8}{F:Nat→Prop}{st:List CliQ×List SrvQ}
theorem failP_cases (o:Nat)(q:PS):failP o q=q∨failP o q= .fl:=by
 cases q using PS.el with
 |op a id=>unfold failP;by_cases h:a=o;simp[h];simp[h]
 |_=>exact .inl rfl
end
end Go.Proofs.YtlonjggfnleolaaGreatDoor
namespace Go.Proofs.YtlonjggfnleolaaGreatDoor
open Go.RowKit
set_option linter.unusedVariables false
def valL (p:Bool×ByteArray×ByteArray):List UInt8:=(valB p).data.toList
theorem li_list:∀(ts:List (Bool×ByteArray×ByteArray)),(liFold ts).data.toList=ts.flatMap valL:=by
 have:∀(ts:List (Bool×ByteArray×ByteArray)) (a:ByteArray),(ts.foldl (fun s p=>s++valB p) a).data.toList=a.data.toList++ts.flatMap valL:=by
  intro ts;induction ts with
  |nil=>intro a;simp
  |cons p ts ih=>intro a;rw[List.foldl_cons,ih,toList_app,List.flatMap_cons,List.append_assoc];rfl
 intro ts;have h:=this ts ⟨#[]⟩;exact h
def tvL (p:Bool×ByteArray):List UInt8:=(tvB p).data.toList
theorem ls_list:∀(ts:List (Bool×ByteArray)),(lsFold ts).data.toList=(ts.map tvL).flatten:=by
 have:∀(ts:List (Bool×ByteArray)) (a:ByteArray),(ts.foldl (fun s p=>s++tvB p) a).data.toList=a.data.toList++(ts.map tvL).flatten:=by
  intro ts;induction ts with
  |nil=>intro a;simp
  |cons p ts ih=>intro a;rw[List.foldl_cons,ih,toList_app,List.map_cons,List.flatten_cons,List.append_assoc];rfl
 intro ts;exact this ts ⟨#[]⟩
set_option maxHeartbeats 4000000
set_option maxRecDepth 20000
theorem kframe0 (s:ByteArray)(ke vl:Nat)(w:World)(hs:s.size≤100000000000)(h0:0<s.size)(h1:1<s.size)(h2:2<s.size)(h3:3<s.size)(h4:4<s.size)(h5:5<s.size)(h6:6<s.size)(e0:(s[0].toNat:Int)=1)(e2:1≤s[2].toNat)(hke:7+s[2].toNat=ke)(hvl:s[3].toNat+256*s[4].toNat=vl)(hl:ke+vl≤s.size):Calls Tryz.prog 38 #[.string s] w fun e w'=>(∃T,e= .returned (.tuple #[.agg #[.int .i64 (s[1].toNat:Int),.slice (some ⟨T,0,none⟩) 1 1,.string (s.extract ke (ke+vl)),.string ⟨#[]⟩,.bool false,.int .i64 ((s[5].toNat:Int)+(256:Int)*(s[6].toNat:Int))],.int .i64 ((ke+vl:Nat):Int),.bool true])∧w'.heap[T]?=some (.cells #[.string (s.extract 7 ke)] 9 (0,0))∧w.heap.size≤T)∧Below w.heap.size w w':=by
 have q1:=s[1].toNat_lt;have q2:=s[2].toNat_lt;have q3:=s[3].toNat_lt;have q4:=s[4].toNat_lt;have q5:=s[5].toNat_lt;have q6:=s[6].toNat_lt;have hS7:¬(s.size:Int)<7:=by omega
 have i0:(0:Int)<(s.size:Int):=by omega
 have i1:(1:Int)<(s.size:Int):=by omega
 have i2:(2:Int)<(s.size:Int):=by omega
 have i3:(3:Int)<(s.size:Int):=by omega
 have i4:(4:Int)<(s.size:Int):=by omega
 have i5:(5:Int)<(s.size:Int):=by omega
 have i6:(6:Int)<(s.size:Int):=by omega
 have z2:((s[2].toNat:Int)==0)=false:=by rw[beq_eq_false_iff_ne];omega
 have zk:(7:Int)+(s[2].toNat:Int)=(ke:Int):=by omega
 have zv:(s[3].toNat:Int)+(256:Int)*(s[4].toNat:Int)=(vl:Int):=by omega
 have wI:IntKind.i64.wrap ((s[5].toNat:Int)+(256:Int)*(s[6].toNat:Int))=(s[5].toNat:Int)+(256:Int)*(s[6].toNat:Int):=wrap_small _ (by omega) (by omega);have wJ:IntKind.i64.wrap ((256:Int)*(s[6].toNat:Int))=(256:Int)*(s[6].toNat:Int):=wrap_small _ (by omega) (by omega);have wK:IntKind.i64.wrap ((256:Int)*(s[4].toNat:Int))=(256:Int)*(s[4].toNat:Int):=wrap_small _ (by omega) (by omega);have w1:IntKind.i64.wrap (s[1].toNat:Int)=(s[1].toNat:Int):=wrap_small _ (by omega) (by omega);have w3:IntKind.i64.wrap (s[3].toNat:Int)=(s[3].toNat:Int):=wrap_small _ (by omega) (by omega);have w4:IntKind.i64.wrap (s[4].toNat:Int)=(s[4].toNat:Int):=wrap_small _ (by omega) (by omega);have w5:IntKind.i64.wrap (s[5].toNat:Int)=(s[5].toNat:Int):=wrap_small _ (by omega) (by omega)
 have w6:IntKind.i64.wrap (s[6].toNat:Int)=(s[6].toNat:Int):=wrap_small _ (by omega) (by omega);have wV:IntKind.i64.wrap (vl:Int)=(vl:Int):=wrap_small _ (by omega) (by omega);have wN:IntKind.i64.wrap ((ke:Int)+(vl:Int))=(ke:Int)+(vl:Int):=wrap_small _ (by omega) (by omega);have j1:(7:Int)≤(ke:Int):=by omega
 have j2:(ke:Int)≤(s.size:Int):=by omega
 have j3:ke≤s.size:=by omega
 have j4:¬(s.size:Int)<(ke:Int)+(vl:Int):=by omega
 have j5:7≤ke:=by omega
 have HH:=hide' (And.intro hke (And.intro hvl (And.intro hl e2)));clear hke hvl e2;go_enter Tryz.func38,Tryz.ntmps38;go_wp2_with fail
 go_region
 go_wp2_with fail
 have HBl:Hid (∀W,Below (w.heap.size+1) (w.alloc (.cells #[.int .i64 0,.slice none 0 0,.string ⟨#[]⟩,.string ⟨#[]⟩,.bool false,.int .i64 0] 36)) W→Below w.heap.size w W):=fun W h=>((Below.refl _ _).alloc (Nat.le_refl _) _).trans (h.mono (by omega))
 go_big_region
 go_wp2_with fail
 refine bodyPost_ret (v:= .tuple #[.agg #[.int .i64 (s[1].toNat:Int),.slice (some ⟨w.heap.size+1,0,none⟩) 1 1,.string (s.extract ke (ke+vl)),.string ⟨#[]⟩,.bool false,.int .i64 ((s[5].toNat:Int)+(256:Int)*(s[6].toNat:Int))],.int .i64 ((ke:Int)+(vl:Int)),.bool true]) (by simp[results,Tryz.results38,go_sem]) rfl ⟨⟨w.heap.size+1,by rw[show((ke+vl:Nat):Int)=(ke:Int)+(vl:Int)by omega],?_,by omega⟩,?_⟩
 ·exact hs_drew (hs_drew (hs_new (by simp)))
 ·exact((((Below.refl _ _).alloc (Nat.le_refl _) _).alloc (by simp) _).drew).drew
structure Fr where
 k:Int
 key:ByteArray
 val:ByteArray
 id:Nat
def Fr.by_ (f:Fr):List UInt8:=(sentB f.k f.key f.val f.id).data.toList
structure FrOk (f:Fr):Prop where
 k:f.k=1∨f.k=2∨f.k=3
 key:keyB f.key=true
 val:f.val.size≤40
 id:f.id<65536
theorem Fr.by_eq (f:Fr)(h:FrOk f):f.by_=[1,UInt8.ofNat f.k.toNat,UInt8.ofNat f.key.size,UInt8.ofNat f.val.size,0,UInt8.ofNat (f.id % 256),UInt8.ofNat (f.id / 256)]++f.key.data.toList++f.val.data.toList:=by
 have hv:=h.val;have z1:((f.val.size:Int) % 256).toNat=f.val.size:=by omega
 have z2:((f.val.size:Int) / 256).toNat=0:=by omega
 have z3:((f.id:Int) % 256).toNat=f.id % 256:=by omega
 have z4:((f.id:Int) / 256).toNat=f.id / 256:=by omega
 unfold Fr.by_ sentB;rw[toList_app,toList_app];simp only[headB,strOfNums,List.map_cons,List.map_nil,z1,z2,z3,z4]
 rfl
theorem ext_mid {pre m post:List UInt8}{a b:Nat}(ha:pre.length=a)(hb:a+m.length=b):(mkB (pre++m++post)).extract a b=mkB m:=by
 subst ha;subst hb;have h:((mkB (pre++m++post)).extract pre.length (pre.length+m.length)).data.toList=m:=by
  simp[mkB]
 rw[←mkB_toList ((mkB (pre++m++post)).extract pre.length (pre.length+m.length)),h]
theorem kframe_any {f:Fr}(hf:FrOk f)(r:List UInt8)(w:World)(hl:(f.by_++r).length≤100000000000):Calls Tryz.prog 38 #[.string (mkB (f.by_++r))] w fun e w'=>(∃T,e= .returned (.tuple #[.agg #[.int .i64 f.k,.slice (some ⟨T,0,none⟩) 1 1,.string f.val,.string ⟨#[]⟩,.bool false,.int .i64 (f.id:Int)],.int .i64 (f.by_.length:Int),.bool true])∧w'.heap[T]?=some (.cells #[.string f.key] 9 (0,0))∧w.heap.size≤T)∧Below w.heap.size w w':=by
 have hk:=keyB_size' hf.key;have hkd:=hf.k;have hv:=hf.val;have hid:=hf.id;have e:=f.by_eq hf;have lk:=len_size' f.key;have lv:=len_size' f.val;have hlen:f.by_.length=7+f.key.size+f.val.size:=by rw[e];simp;omega
 rw[List.length_append,hlen]at hl;have hsz:(mkB (f.by_++r)).size=7+f.key.size+f.val.size+r.length:=by rw[mk_size,List.length_append,hlen]
 have eL:(mkB (f.by_++r)).data.toList=[1,UInt8.ofNat f.k.toNat,UInt8.ofNat f.key.size,UInt8.ofNat f.val.size,0,UInt8.ofNat (f.id % 256),UInt8.ofNat (f.id / 256)]++(f.key.data.toList++f.val.data.toList++r):=by rw[e];simp[mkB]
 have b0:=byAt_str (s:=mkB (f.by_++r)) (k:=0) (by omega);have b1:=byAt_str (s:=mkB (f.by_++r)) (k:=1) (by omega);have b2:=byAt_str (s:=mkB (f.by_++r)) (k:=2) (by omega);have b3:=byAt_str (s:=mkB (f.by_++r)) (k:=3) (by omega);have b4:=byAt_str (s:=mkB (f.by_++r)) (k:=4) (by omega);have b5:=byAt_str (s:=mkB (f.by_++r)) (k:=5) (by omega);have b6:=byAt_str (s:=mkB (f.by_++r)) (k:=6) (by omega);rw[eL]at b0 b1 b2 b3 b4 b5 b6;have c0:(1:UInt8).toNat=(mkB (f.by_++r))[0].toNat:=b0;have c1:(UInt8.ofNat f.k.toNat).toNat=(mkB (f.by_++r))[1].toNat:=b1;have c2:(UInt8.ofNat f.key.size).toNat=(mkB (f.by_++r))[2].toNat:=b2;have c3:(UInt8.ofNat f.val.size).toNat=(mkB (f.by_++r))[3].toNat:=b3;have c4:(0:UInt8).toNat=(mkB (f.by_++r))[4].toNat:=b4
 have c5:(UInt8.ofNat (f.id % 256)).toNat=(mkB (f.by_++r))[5].toNat:=b5;have c6:(UInt8.ofNat (f.id / 256)).toNat=(mkB (f.by_++r))[6].toNat:=b6;rw[ofNat_lt _ (by omega)]at c1 c2 c3 c5 c6;have z0:(1:UInt8).toNat=1:=rfl;have z4:(0:UInt8).toNat=0:=rfl;have x1:(mkB (f.by_++r)).extract 7 (7+f.key.size)=f.key:=by
  rw[e,show [1,UInt8.ofNat f.k.toNat,UInt8.ofNat f.key.size,UInt8.ofNat f.val.size,0,UInt8.ofNat (f.id % 256),UInt8.ofNat (f.id / 256)]++f.key.data.toList++f.val.data.toList++r=[1,UInt8.ofNat f.k.toNat,UInt8.ofNat f.key.size,UInt8.ofNat f.val.size,0,UInt8.ofNat (f.id % 256),UInt8.ofNat (f.id / 256)]++f.key.data.toList++(f.val.data.toList++r)by simp,ext_mid (a:=7) rfl (by rw[lk]),mkB_toList]
 have x2:(mkB (f.by_++r)).extract (7+f.key.size) (7+f.key.size+f.val.size)=f.val:=by
  rw[e,ext_mid (by simp;omega) (by rw[lv]),mkB_toList]
 have h:=kframe0 (mkB (f.by_++r)) (7+f.key.size) f.val.size w (by omega) (by omega) (by omega) (by omega) (by omega) (by omega) (by omega) (by omega) (by omega) (by omega) (by omega) (by omega) (by omega);rw[x1,x2]at h;refine h.mono ?_;rintro e w' ⟨⟨T,rfl,h2,h3⟩,h4⟩;refine⟨⟨T,?_,h2,h3⟩,h4⟩;have y1:(((mkB (f.by_++r))[1].toNat:Nat):Int)=f.k:=by omega
 have y2:((mkB (f.by_++r))[5].toNat:Int)+(256:Int)*((mkB (f.by_++r))[6].toNat:Int)=(f.id:Int):=by omega
 rw[y1,y2,hlen]
end Go.Proofs.YtlonjggfnleolaaGreatDoor
