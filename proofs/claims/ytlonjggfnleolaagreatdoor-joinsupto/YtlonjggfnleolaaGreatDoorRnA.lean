import Derived.Test.YtlonjggfnleolaaGreatDoorBnM
import Derived.Test.YtlonjggfnleolaaGreatDoorRjM
import Derived.Defers
namespace Go.Proofs.YtlonjggfnleolaaGreatDoor
open Go.RowKit Go.Shelf Go.Conc
set_option linter.unusedVariables false
variable {d:Int}{c:Cmd}{W' W:World}{win X sv pt g sc:Nat}{v:CliV}{s:CliQ}{cv:Value}{exV:List (Nat×Nat×Value)}{vs:List SrvV}{ss:List SrvQ}
theorem keys_size (h:WOk d c)(hk:c.keys≠[]):∀x∈c.keys,1≤x.size:=by
 have aux:∀m:Int,keysB c.keys m=true→∀x∈c.keys,1≤x.size:=fun m h1 x hx=>by
  unfold keysB at h1;rw[Bool.and_eq_true,List.all_eq_true]at h1;exact(keyB_size' (h1.2 x hx)).1
 rcases h.ok.or_ with⟨h1,_⟩|⟨_,h1,_⟩
 ·unfold cmdB at h1;split at h1
  ·rw[Bool.and_eq_true]at h1;exact aux _ h1.1
  ·split at h1
   ·rw[Bool.and_eq_true]at h1;exact aux _ h1.1
   ·split at h1
    ·rw[Bool.and_eq_true]at h1;exact aux _ h1.1
    ·cases h1
 ·exact absurd h1 hk
theorem QuAt.new {lo q:Nat}(h:NewQ lo W' q c)(hc:WOk d c):∃vq:QI,vq.q=q∧QuAt W' vq ⟨c,List.replicate c.keys.length .un⟩∧∀b∈vq.foot,lo≤b:=by
 obtain⟨ka,kn,kc,yb,vb,gy,gv,hk,hq,hy,hv⟩:=h.at_;have hkl:c.keys.length=kn:=by rcases hk with⟨e,h⟩|⟨b,c',e,_⟩<;>(cases e;first|(rw[h];rfl)|rfl)
 subst hkl;have ey:yesC (List.replicate c.keys.length PS.un)=Array.replicate c.keys.length (.bool false):=by
  unfold yesC;apply Array.ext';simp[PS.yes]
 have ev:valC (List.replicate c.keys.length PS.un)=Array.replicate c.keys.length (.string ⟨#[]⟩):=by
  unfold valC;apply Array.ext';simp[PS.val]
 have en:QS.n ⟨c,List.replicate c.keys.length .un⟩=c.keys.length:=by unfold QS.n;simp[List.countP_replicate,PS.opn]
 have ef:QS.fa ⟨c,List.replicate c.keys.length .un⟩=false:=by unfold QS.fa;simp[PS.bad]
 have er:QS.re ⟨c,List.replicate c.keys.length .un⟩=false:=by unfold QS.re;simp[PS.ref]
 have hq2:∀kb,W'.heap[q]?=some (qdO (qdOf ⟨q,yb,vb,kb,.slice ka c.keys.length kc⟩ ⟨c,List.replicate c.keys.length .un⟩)):=fun kb=>by
  unfold qdO qdOf;simp only[en,ef,er,List.length_replicate]
  exact hq
 rcases hk with⟨e,h0⟩|⟨b,c',e,hb,Z,hZ,hzs,hcap,hz⟩
 ·obtain⟨rfl,_,rfl⟩:ka=none∧c.keys.length=0∧kc=0:=by simpa using e
  refine⟨⟨q,yb,vb,none,.slice none c.keys.length 0⟩,rfl,⟨hq2 none,by rw[ey];exact hy,by rw[ev];exact hv,.inl ⟨h0,rfl,none,0,by simp[h0]⟩⟩,fun b hb=>?_⟩;simp[QI.foot]at hb;have:=h.ge;rcases hb with e|e|e<;>omega
 ·cases e;by_cases hk0:c.keys=[]
  ·refine⟨⟨q,yb,vb,none,.slice (some ⟨b,0,none⟩) c.keys.length kc⟩,rfl,⟨hq2 none,by rw[ey];exact hy,by rw[ev];exact hv,.inl ⟨hk0,rfl,some ⟨b,0,none⟩,kc,by simp[hk0]⟩⟩,fun b hb=>?_⟩;simp[QI.foot]at hb;have:=h.ge;rcases hb with e|e|e<;>omega
  ·refine⟨⟨q,yb,vb,some b,.slice (some ⟨b,0,none⟩) c.keys.length kc⟩,rfl,⟨hq2 _,by rw[ey];exact hy,by rw[ev];exact hv,.inr ⟨b,kc,Z,rfl,fun e=>?_,rfl,hcap,hZ,hz⟩⟩,fun b hb=>?_⟩
   ·simp only at e;rw[e,hv]at hZ;obtain⟨k0,hk1⟩:∃k0,c.keys[0]?=some k0:=⟨_,List.getElem?_eq_getElem (List.length_pos_iff.2 hk0)⟩
    have h2:=hz 0 k0 hk1;simp at hZ;rw[←hZ]at h2;have h3:=keys_size hc hk0 k0 (List.mem_of_getElem? hk1);have h4:k0=⟨#[]⟩:=by
     rw[Array.getElem?_replicate]at h2;split at h2
     ·simp at h2;exact h2.symm
     ·cases h2
    rw[h4]at h3;exact absurd h3 (by decide)
   ·simp[QI.foot]at hb;have:=h.ge;rcases hb with e|e|e|e<;>omega
theorem CliAt.next (h:CliAt W win v s)(x:StepR)(hx:readR s.d s.st.held=some x)(q:Nat)(k':CliI)(hcor:CorAt W' win k' ⟨s.d,afterS s.st x,s.qs.map (·.c)++[x.c],s.told⟩)(hkq:k'.qs=v.k.qs++[q])(h8:NewQ W.heap.size W' q x.c)(k:Chg v.k.foot W W')(hl:Later W v.k.foot k'.foot):∃vq:QI,vq.q=q∧CliAt W' win ⟨k',v.qi++[vq]⟩ ⟨s.d,afterS s.st x,s.qs++[⟨x.c,List.replicate x.c.keys.length .un⟩],s.told⟩∧Chg v.foot W W'∧Later W v.foot (CliV.foot ⟨k',v.qi++[vq]⟩):=by
 have hw:=read_wOk hx;obtain⟨vq,e,hq,hn⟩:=QuAt.new h8 hw;have hold:QusAt W' v.qi s.qs:=h.qu.keep (fun b hb=>k.block b (h.qu.old b hb) (h.ap b hb));refine⟨vq,e,⟨?_,?_,hold.snoc hq (fun b hb hm=>?_),fun y hy=>?_⟩,k.more (fun b hb=>List.mem_append.2 (.inl hb)),fun b hb=>?_⟩
 ·have:(s.qs++[(⟨x.c,List.replicate x.c.keys.length .un⟩:QS)]).map (·.c)=s.qs.map (·.c)++[x.c]:=by simp
  show CorAt W' win k' ⟨s.d,afterS s.st x,(s.qs++[(⟨x.c,List.replicate x.c.keys.length .un⟩:QS)]).map (·.c),s.told⟩;rw[this];exact hcor
 ·show k'.qs=(v.qi++[vq]).map (·.q);rw[hkq,h.qk,List.map_append];simp[e]
 ·have h1:=hn b hb;have h2:=h.qu.old b hm;omega
 ·rcases List.mem_append.1 hy with h1|h1
  ·exact h.ok y h1
  ·simp at h1;rw[h1];exact⟨hw,by simp,fun p hp=>by rw[List.eq_of_mem_replicate hp];trivial⟩
 ·rcases List.mem_append.1 hb with hb|hb
  ·rcases hl b hb with h1|h1
   ·exact .inl (List.mem_append.2 (.inl h1))
   ·exact .inr h1
  ·simp only at hb;rw[feetQ_app,feetQ_one]at hb;rcases List.mem_append.1 hb with hb|hb
   ·exact .inl (List.mem_append.2 (.inr hb))
   ·exact .inr (hn b hb)
theorem opQ_none (C q:Nat):∀(ps:List PS) (i:Nat),ps.countP PS.opn=0→opQ C q i ps=[]:=by
 intro ps;induction ps with
 |nil=>intro i _;rfl
 |cons p ps ih=>
  intro i h;rw[List.countP_cons]at h;cases p using PS.el with
  |op o id=>simp[PS.opn]at h
  |un=>simp[PS.opn]at h
  |an st v=>exact ih (i+1) (by simpa [PS.opn]using h)
  |fl=>exact ih (i+1) (by simpa [PS.opn]using h)
theorem tellQ_drop (d:Int):∀(xs:List QS) (told:List UInt8),∃m,m≤xs.length∧(tellQ d xs told).1=xs.drop m∧∀x∈xs.take m,x.n=0:=by
 intro xs;induction xs with
 |nil=>intro told;exact⟨0,Nat.le_refl _,rfl,fun x hx=>by cases hx⟩
 |cons x xs ih=>
  intro told;unfold tellQ;by_cases hx:x.n=0
  ·rw[if_pos hx];obtain⟨m,h0,h1,h2⟩:=ih (told++(toldB d x).data.toList);refine⟨m+1,by simp;omega,h1,fun y hy=>?_⟩;rw[List.take_succ_cons]at hy;rcases List.mem_cons.1 hy with e|e
   ·rw[e];exact hx
   ·exact h2 y e
  ·rw[if_neg hx];exact⟨0,Nat.zero_le _,rfl,fun y hy=>by cases hy⟩
theorem opnV_drop (C:Nat):∀(m:Nat) (qi:List QI) (xs:List QS),(∀x∈xs.take m,x.n=0)→opnV C (qi.drop m) (xs.drop m)=opnV C qi xs:=by
 intro m;induction m with
 |zero=>intro qi xs _;rfl
 |succ m ih=>
  intro qi xs h;cases qi with
  |nil=>unfold opnV;simp
  |cons v qi=>
   cases xs with
   |nil=>unfold opnV;simp
   |cons x xs=>
    rw[opnV_cons,List.drop_succ_cons,List.drop_succ_cons,ih qi xs (fun y hy=>h y (by rw[List.take_succ_cons];exact List.mem_cons_of_mem _ hy)),opQ_none _ _ _ _ (h x (by rw[List.take_succ_cons];simp)),List.nil_append]
theorem drop_same {α β:Type}(a:List α)(b:List β)(hab:a.length=b.length)(n m:Nat)(h:b.drop n=b.drop m):a.drop n=a.drop m:=by
 have hl:=congrArg List.length h;rw[List.length_drop,List.length_drop]at hl;by_cases h1:n<b.length
 ·have:n=m:=by omega
  rw[this]
 ·rw[List.drop_eq_nil_iff.2 (by omega),List.drop_eq_nil_iff.2 (by omega)]
def tellQs (s:CliQ):CliQ:={s with qs:=(tellQ s.d s.qs s.told).1,told:=(tellQ s.d s.qs s.told).2}
theorem tell_runQ (h:RunQ W X sv pt win g sc cv exV v s vs ss)(hl:s.told.length+1000*s.qs.length≤100000000000)(hwn:s.qs.length≤1000):Calls Tryz.prog 89 #[.pointer (some ⟨v.k.C,0,none⟩)] W fun e w'=>e= .returned (.tuple #[])∧∃v',RunQ w' X sv pt win g sc cv exV v' (tellQs s) vs ss∧v'.k.C=v.k.C∧v'.k.R=v.k.R∧Chg v.foot W w'∧Later W v.foot v'.foot:=by
 have hT:Calls Tryz.prog 89 #[.pointer (some ⟨v.k.C,0,none⟩)] W fun e w'=>e= .returned (.tuple #[])∧∃v',CliAt w' win v' {s with qs:=(tellQ s.d s.qs s.told).1,told:=(tellQ s.d s.qs s.told).2}∧v'.k.C=v.k.C∧v'.k.R=v.k.R∧Chg v.foot W w'∧Later W v.foot v'.foot∧∃n,v'.qi=v.qi.drop n∧(tellQ s.d s.qs s.told).1=s.qs.drop n:=by
  rcases h.cli.cor.di with⟨h1,h2⟩|⟨h1,h2⟩|⟨h1,h2⟩
  ·exact cliTell1 win v s W h.cli h2 h1 hl hwn
  ·exact cliTell2 win v s W h.cli h2 h1 hl hwn
  ·exact cliTell3 win v s W h.cli h2 h1 hl hwn
 refine hT.mono ?_;rintro e w' ⟨rfl,v',h1,h2,h3,h4,h5,n,h6,h7⟩;refine⟨rfl,v',h.cliTo h4 h5 h1 ?_,h2,h3,h4,h5⟩;obtain⟨m,m0,m1,m2⟩:=tellQ_drop s.d s.qs s.told;show opnV v'.k.C v'.qi (tellQ s.d s.qs s.told).1=_;rw[h2,h6,drop_same v.qi s.qs h.cli.qu.len n m (h7.symm.trans m1),m1];exact opnV_drop _ _ _ _ m2
def CNextQ (W w':World)(X sv pt win g sc:Nat)(cv:Value)(exV:List (Nat×Nat×Value))(v:CliV)(s:CliQ)(vs:List SrvV)(ss:List SrvQ)(e:Ending):Prop:=
 ((¬s.qs.length<win∨readR s.d s.st.held=none)∧e= .returned (.tuple #[.pointer none,.bool false])∧RunQ w' X sv pt win g sc cv exV v s vs ss∧Chg v.foot W w')∨
 ∃(x:StepR) (vq:QI) (v':CliV),readR s.d s.st.held=some x∧s.qs.length<win∧e= .returned (.tuple #[.pointer (some ⟨vq.q,0,none⟩),.bool true])∧RunQ w' X sv pt win g sc cv exV v' ⟨s.d,afterS s.st x,s.qs++[⟨x.c,List.replicate x.c.keys.length .un⟩],s.told⟩ vs ss∧v'.qi=v.qi++[vq]∧v'.k.C=v.k.C∧v'.k.R=v.k.R∧Chg v.foot W w'∧Later W v.foot v'.foot
theorem next_runQ (h:RunQ W X sv pt win g sc cv exV v s vs ss)(hh:s.st.held.length≤140737488355328)(hw:s.qs.length≤1000000):Calls Tryz.prog 90 #[.pointer (some ⟨v.k.C,0,none⟩)] W fun e w'=>CNextQ W w' X sv pt win g sc cv exV v s vs ss e:=by
 obtain⟨buf,a,b,tm,c1,c2⟩:=h.cli.cor.chan;have c3:buf.size=s.qs.length:=by rw[c2];show(s.qs.map (·.c)).length=_;rw[List.length_map]
 by_cases hlt:s.qs.length<win
 ·cases hr:readR s.d s.st.held with
  |none=>
   refine(next_none v.k.C v.k.R v.k.ch win a b v.k.t s.d v.k.hb s.st buf tm v.k.wv v.k.bp v.k.bv W h.cli.cor.blk c1 (by omega) h.cli.cor.di h.cli.cor.rd hh hr).mono ?_;rintro e w' ⟨rfl,k,buf',s',r',h1,h2⟩;have k':Chg v.k.foot W w':=k.more (fun x hx=>by simp at hx;rw[hx];simp[CliI.foot]);obtain⟨a1,a2,a3⟩:=h.cli.corTo k' (h.cli.cor.chan' k buf' s' r' tm (by omega) h2) rfl (Later.refl _ _);exact .inl ⟨.inr hr,rfl,h.cliTo a2 a3 a1 rfl,a2⟩
  |some x=>
   have hc:=read_cmdOk hr;have hrow:=h.cli.cor.row;have hwl:s.k.waits.length=s.qs.length:=by show(s.qs.map (·.c)).length=_;rw[List.length_map]
   rw[hwl]at hrow;refine(next_some v.k.C v.k.R v.k.ch win a b v.k.t s.qs.length s.d v.k.hb s.st x (v.k.qs.map ptrV) buf tm v.k.wv v.k.bp v.k.bv W h.cli.cor.blk c1 (by omega) h.cli.cor.di h.cli.cor.rd hh hr hrow hw (by have:=hc.k4;omega)).mono ?_;rintro e w' ⟨q,g',c',buf',s',r',hb',rfl,h1,h2,h3,h4,h5,h6,h7,h8,h9⟩;rw[←hwl]at h1 h2;obtain⟨a1,a3,a4⟩:=h.cli.cor.next x hr q g' c' buf' s' r' tm hb' h1 h2 h3 (by omega) h5 h6 h7 h8 h9;obtain⟨vq,e1,e2,e3,e4⟩:=h.cli.next x hr q _ a1 rfl h8 a3 a4;refine .inr ⟨x,vq,_,hr,hlt,by rw[e1],h.cliTo e3 e4 e2 ?_,rfl,rfl,rfl,e3,e4⟩;have:=opnV_last v.k.C vq v.qi x.c [] x.c.keys.length s.qs h.cli.qu.len;simpa [opQ]using this
 ·refine(next_full v.k.C v.k.R v.k.ch win a b buf tm v.k.wv v.k.bp v.k.bv W h.cli.cor.blk c1 (by omega)).mono ?_;rintro e w' ⟨rfl,rfl⟩;exact .inl ⟨.inl hlt,rfl,h,Chg.refl _ _⟩
set_option maxHeartbeats 1000000
set_option maxRecDepth 100000
variable {sv pt win T E X g sc:Nat}{ex:List (Nat×Nat)}{s:CliQ}{ss:List SrvQ}{x:StepR}{cv:Value}{exV:List (Nat×Nat×Value)}{v:CliV}{vs:List SrvV}
def gotQ (sv pt:Nat)(ex:List (Nat×Nat))(s:CliQ)(ss:List SrvQ)(x:StepR):CliQ×List SrvQ:=
 (⟨s.d,afterS s.st x,s.qs++[⟨x.c,(sendsK sv pt x.c.kind x.c.val (ex++opQs s.qs) ss x.c.keys).2⟩],s.told⟩,(sendsK sv pt x.c.kind x.c.val (ex++opQs s.qs) ss x.c.keys).1)
def servF (sv pt win:Nat)(ex:List (Nat×Nat)):Nat→CliQ→List SrvQ→CliQ×List SrvQ
 |0,s,ss=>(s,ss)
 |f+1,s,ss=>if s.qs.length<win then
  match readR s.d s.st.held with
  |none=>(s,ss)
  |some x=>servF sv pt win ex f (tellQs (gotQ sv pt ex s ss x).1) (gotQ sv pt ex s ss x).2
  else(s,ss)
def servQ (sv pt win:Nat)(ex:List (Nat×Nat))(s:CliQ)(ss:List SrvQ):CliQ×List SrvQ:=servF sv pt win ex s.st.held.length s ss
theorem servF_more (sv pt win:Nat)(ex:List (Nat×Nat)):∀(f:Nat) (s:CliQ) (ss:List SrvQ) (g:Nat),s.st.held.length≤f→f≤g→servF sv pt win ex g s ss=servF sv pt win ex f s ss:=by
 intro f;induction f with
 |zero=>
  intro s ss g h _;have h0:s.st.held=[]:=List.length_eq_zero_iff.1 (by omega);cases g with
  |zero=>rfl
  |succ g=>
   unfold servF;rw[h0,readR_nil];simp
 |succ f ih=>
  intro s ss g h hg;obtain⟨g,rfl⟩:∃k,g=k+1:=⟨g-1,by omega⟩
  unfold servF;split
  ·cases hr:readR s.d s.st.held with
   |none=>rfl
   |some x=>
    have hl:=afterS_len hr;simp only
    exact ih _ _ g (by show(afterS s.st x).held.length≤f;omega) (by omega)
  ·rfl
theorem servQ_stop (h:¬s.qs.length<win∨readR s.d s.st.held=none):servQ sv pt win ex s ss=(s,ss):=by
 unfold servQ;cases s.st.held.length with
 |zero=>rfl
 |succ f=>
  unfold servF;rcases h with h|h
  ·rw[if_neg h]
  ·rw[h];simp
theorem servQ_some (hw:s.qs.length<win)(h:readR s.d s.st.held=some x):servQ sv pt win ex s ss=servQ sv pt win ex (tellQs (gotQ sv pt ex s ss x).1) (gotQ sv pt ex s ss x).2:=by
 have hl:=afterS_len h;obtain⟨f,hf⟩:∃f,s.st.held.length=f+1:=⟨s.st.held.length-1,by omega⟩
 unfold servQ;rw[hf];conv=>lhs;unfold servF;rw[if_pos hw,h]
 simp only
 exact servF_more sv pt win ex _ _ _ f (Nat.le_refl _) (by show(afterS s.st x).held.length≤f;omega)
structure BdQ (win T E:Nat)(s:CliQ)(ss:List SrvQ):Prop where
 told:s.told.length+1000*(s.qs.length+s.st.held.length)≤T
 wl:s.qs.length≤win
 srv:∀u∈ss,u.next<65536∧u.sent.length+4000*s.st.held.length+E≤T
theorem tellQ_bd (d:Int)(hd:d=1∨d=2∨d=3):∀(l:List QS) (told:List UInt8),(∀c∈l,QSOk d c)→(tellQ d l told).2.length+1000*(tellQ d l told).1.length≤told.length+1000*l.length∧(tellQ d l told).1.length≤l.length:=by
 intro l;induction l with
 |nil=>intro told _;exact⟨Nat.le_refl _,Nat.le_refl _⟩
 |cons x l ih=>
  intro told h;unfold tellQ;split
  ·have h1:=ih (told++(toldB d x).data.toList) (fun c hc=>h c (by simp[hc]));have h2:=toldB_size hd (h x (by simp));rw[List.length_append]at h1;have h3:(toldB d x).data.toList.length≤1000:=by rw[Array.length_toList];exact h2
   simp only[List.length_cons]
   omega
  ·exact⟨Nat.le_refl _,Nat.le_refl _⟩
theorem BdQ.tell (h:BdQ win T E s ss)(hd:s.d=1∨s.d=2∨s.d=3)(hok:∀c∈s.qs,QSOk s.d c):BdQ win T E (tellQs s) ss:=by
 obtain⟨h1,h2⟩:=tellQ_bd s.d hd s.qs s.told hok;have ht:=h.told;have hw:=h.wl;refine⟨?_,?_,h.srv⟩
 ·show(tellQ s.d s.qs s.told).2.length+1000*((tellQ s.d s.qs s.told).1.length+s.st.held.length)≤T;omega
 ·show(tellQ s.d s.qs s.told).1.length≤win;omega
theorem BdQ.got (h:BdQ win T E s ss)(hw:s.qs.length<win)(hx:readR s.d s.st.held=some x)(sv pt:Nat)(ex:List (Nat×Nat)):BdQ win T E (gotQ sv pt ex s ss x).1 (gotQ sv pt ex s ss x).2:=by
 have hc:=read_cmdOk hx;have hl:=afterS_len hx;have ht:=h.told;have h4:=hc.k4;refine⟨?_,?_,fun u hu=>?_⟩
 ·show s.told.length+1000*((s.qs++[_]).length+(afterS s.st x).held.length)≤T;rw[List.length_append,List.length_singleton];omega
 ·show(s.qs++[_]).length≤win;rw[List.length_append,List.length_singleton];omega
 ·show _∧u.sent.length+4000*(afterS s.st x).held.length+E≤T;have h1:=sendsK_bd sv pt x.c.kind x.c.val hc.v40 (ex++opQs s.qs) ss (T-E-4000*s.st.held.length) (fun z hz=>by
   have:=h.srv z hz;exact⟨this.1,by omega⟩) x.c.keys hc.k8 u hu
  refine⟨h1.1,?_⟩;have hlen:=(sendsK_len sv pt x.c.kind x.c.val (ex++opQs s.qs) ss x.c.keys).1;cases ss with
  |nil=>
   exfalso;have h0:(gotQ sv pt ex s [] x).2=[]:=List.length_eq_zero_iff.1 hlen;rw[h0]at hu;cases hu
  |cons u0 us=>
   have h5:=h.srv u0 (by simp);omega
theorem dial_of {d:Int}{t:Nat}(h:dT d t):d=1∨d=2∨d=3:=by
 rcases h with⟨h,_⟩|⟨h,_⟩|⟨h,_⟩<;>simp[h]
def OnQ (W:World)(X sv pt win g sc:Nat)(cv:Value)(exV:List (Nat×Nat×Value))(C R T E:Nat)(M:List Nat)(w0:World)(tgt:CliQ×List SrvQ)(qv bv:Value):Prop:=
 ∃(v:CliV) (s:CliQ) (vs:List SrvV) (ss:List SrvQ),v.k.C=C∧v.k.R=R∧RunQ W X sv pt win g sc cv exV v s vs ss∧Chg M w0 W∧Later w0 M (allQ v vs)∧
  ((qv= .pointer none∧bv= .bool false∧BdQ win T E s ss∧(s,ss)=tgt)∨
   ∃(d:Int) (st:St) (qs0:List QS) (c:Cmd) (told:List UInt8) (qi0:List QI) (vq:QI),s=⟨d,st,qs0++[⟨c,List.replicate c.keys.length .un⟩],told⟩∧v.qi=qi0++[vq]∧qv= .pointer (some ⟨vq.q,0,none⟩)∧bv= .bool true∧qs0.length≤1000∧(∀u∈ss,u.sent.length+5000≤100000000000)∧BdQ win T E ⟨d,st,qs0++[⟨c,(sendsK sv pt c.kind c.val (forg exV++opQs qs0) ss c.keys).2⟩],told⟩ (sendsK sv pt c.kind c.val (forg exV++opQs qs0) ss c.keys).1∧servQ sv pt win (forg exV) (tellQs ⟨d,st,qs0++[⟨c,(sendsK sv pt c.kind c.val (forg exV++opQs qs0) ss c.keys).2⟩],told⟩) (sendsK sv pt c.kind c.val (forg exV++opQs qs0) ss c.keys).1=tgt)
theorem onQ_next {W w' w0:World}{C R:Nat}{M:List Nat}{e:Ending}(hT:T+5000≤100000000000)(hwin:win≤1000)(hC:v.k.C=C)(hR:v.k.R=R)(hb:BdQ win T E s ss)(hk:Chg M w0 W)(hl:Later w0 M (allQ v vs))(h:CNextQ W w' X sv pt win g sc cv exV v s vs ss e):∃qv bv,e= .returned (.tuple #[qv,bv])∧OnQ w' X sv pt win g sc cv exV C R T E M w0 (servQ sv pt win (forg exV) s ss) qv bv∧onM bv w' R<s.st.held.length+1:=by
 have hs:=hk.size;rcases h with⟨h1,rfl,h2,h3⟩|⟨x,vq,v',hr,hlt,rfl,h2,h3,h4,h5,h6,h7⟩
 ·exact⟨_,_,rfl,⟨v,s,vs,ss,hC,hR,h2,hk.trans h3 hl.left,hl,.inl ⟨rfl,rfl,hb,(servQ_stop h1).symm⟩⟩,Nat.succ_pos _⟩
 ·have b2:=hb.got hlt hr sv pt (forg exV);refine⟨_,_,rfl,⟨v',_,vs,ss,h4.trans hC,h5.trans hR,h2,hk.trans h6 hl.left,hl.app hs h7 (Later.refl _ _),.inr ⟨s.d,afterS s.st x,s.qs,x.c,s.told,v.qi,vq,rfl,h3,rfl,rfl,by omega,fun u hu=>by have:=(hb.srv u hu).2;omega,b2,(servQ_some hlt hr).symm⟩⟩,?_⟩;show heldLen w' R+1<_;have h8:=h2.cli.cor.rd.len;rw[h5,hR]at h8;rw[h8];have:=afterS_len hr;show(afterS s.st x).held.length+1<_;omega
theorem readOn_runQ {w:World}(h:RunQ w X sv pt win g sc cv exV v s vs ss)(hT:T+5000≤100000000000)(hwin:win≤1000)(hb:BdQ win T E s ss):Calls Tryz.prog 59 #[.pointer (some ⟨X,0,none⟩),.pointer (some ⟨v.k.C,0,none⟩)] w fun e w'=>e= .returned (.tuple #[])∧∃v' vs',RunQ w' X sv pt win g sc cv exV v' (servQ sv pt win (forg exV) (tellQs s) ss).1 vs' (servQ sv pt win (forg exV) (tellQs s) ss).2∧v'.k.C=v.k.C∧BdQ win T E (servQ sv pt win (forg exV) (tellQs s) ss).1 (servQ sv pt win (forg exV) (tellQs s) ss).2∧Chg (allQ v vs) w w'∧Later w (allQ v vs) (allQ v' vs'):=by
 obtain⟨C,hC⟩:∃C,v.k.C=C:=⟨_,rfl⟩
 obtain⟨R,hR⟩:∃R,v.k.R=R:=⟨_,rfl⟩
 have hbt:=hb.told;have hbw:=hb.wl;have HT0:=hide' (tell_runQ h (by omega) (by omega));rw[hC]at HT0⊢;have HA:=hide' (And.intro (hb.tell (dial_of h.cli.cor.di) h.cli.ok) (And.intro hC hR));generalize hM:allQ v vs=M at*;have HM:=hide' hM;have HTell:Hid (∀(w1:World) (v1:CliV) (s1:CliQ) (vs1:List SrvV) (ss1:List SrvQ),RunQ w1 X sv pt win g sc cv exV v1 s1 vs1 ss1→v1.k.C=C→BdQ win T E s1 ss1→Calls Tryz.prog 89 #[.pointer (some ⟨C,0,none⟩)] w1 fun e w'=>e= .returned (.tuple #[])∧∃v',RunQ w' X sv pt win g sc cv exV v' (tellQs s1) vs1 ss1∧v'.k.C=C∧v'.k.R=v1.k.R∧Chg v1.foot w1 w'∧Later w1 v1.foot v'.foot∧BdQ win T E (tellQs s1) ss1):=fun w1 v1 s1 vs1 ss1 h1 hc1 hb1=>by
  have a1:=hb1.told;have a2:=hb1.wl;have:=tell_runQ h1 (by omega) (by omega);rw[hc1]at this;refine this.mono ?_;rintro e w' ⟨rfl,v',b1,b2,b3,b4,b5⟩;exact⟨rfl,v',b1,b2,b3,b4,b5,hb1.tell (dial_of h1.cli.cor.di) h1.cli.ok⟩
 have HNext:Hid (∀(w1:World) (v1:CliV) (s1:CliQ) (vs1:List SrvV) (ss1:List SrvQ),RunQ w1 X sv pt win g sc cv exV v1 s1 vs1 ss1→v1.k.C=C→v1.k.R=R→BdQ win T E s1 ss1→Chg M w w1→Later w M (allQ v1 vs1)→Calls Tryz.prog 90 #[.pointer (some ⟨C,0,none⟩)] w1 fun e w'=>∃qv bv,e= .returned (.tuple #[qv,bv])∧OnQ w' X sv pt win g sc cv exV C R T E M w (servQ sv pt win (forg exV) s1 ss1) qv bv∧onM bv w' R<s1.st.held.length+1):=fun w1 v1 s1 vs1 ss1 h1 hc1 hr1 hb1 hk1 hl1=>by
  have a1:=hb1.told;have a2:=hb1.wl;have:=next_runQ h1 (by omega) (by omega);rw[hc1]at this;refine this.mono ?_;intro e w' ho;exact onQ_next hT hwin hc1 hr1 hb1 hk1 hl1 ho
 clear h hb hbt hbw hM hC hR;go_enter Tryz.func59,Tryz.ntmps59;go_wp2_with fail
 go_at_call 89;refine HT0.out.mono ?_;rintro e w1 ⟨rfl,v1,h1,hc1,hr1,k1,l1⟩;have HN1:=hide' (HNext.out w1 v1 (tellQs s) vs ss h1 hc1 (hr1.trans HA.out.2.2) HA.out.1 (k1.more (fun b hb=>by rw[←HM.out];exact List.mem_append.2 (.inl hb))) (by rw[←HM.out];exact(Later.refl _ _).app (Nat.le_refl _) l1 (Later.refl _ _)));clear h1 hc1 hr1 k1 l1;go_wp2_with fail
 go_at_call 90;refine HN1.out.mono ?_;rintro e w2 ⟨qv,bv,rfl,hon,hm⟩;have HON:=hide' hon;clear hon hm HN1 HT0;go_wp2_with fail
 go_loopw [4,5] (fun qv bv wr=>Hid (OnQ wr X sv pt win g sc cv exV C R T E M w (servQ sv pt win (forg exV) (tellQs s) ss) qv bv)) (fun _ bv wr=>onM bv wr R)
 case atStart=>exact HON
 case round=>
  obtain⟨v2,s2,vs2,ss2,hc2,hr2,hrun,hk,hl,ho⟩:=hrel.out;rcases ho with⟨rfl,rfl,hb2,ht⟩|⟨d2,st2,qs2,c,told2,qi2,vq,rfl,hqi,rfl,rfl,hq1,hbs,hb2,ht⟩
  ·have HF:=hide' (show∃v' vs',RunQ wr X sv pt win g sc cv exV v' (servQ sv pt win (forg exV) (tellQs s) ss).1 vs' (servQ sv pt win (forg exV) (tellQs s) ss).2∧v'.k.C=C∧BdQ win T E (servQ sv pt win (forg exV) (tellQs s) ss).1 (servQ sv pt win (forg exV) (tellQs s) ss).2∧Chg M w wr∧Later w M (allQ v' vs')from by
    rw[←ht];exact⟨v2,vs2,hrun,hc2,hb2,hk,hl⟩)
   clear hrun hk hl hb2 ht hrel hc2 hr2 HTell HNext HON HM HA;go_wp2;go_end0;exact⟨rfl,HF.out⟩
  ·have HS:=jsendQ hrun hqi hq1 hbs;rw[hc2]at HS;have hmm:onM (.bool true) wr R=st2.held.length+1:=by
    show heldLen wr R+1=_;rw[←hr2,hrun.cli.cor.rd.len];rfl
   have HMM:=hide' hmm;have H2:=hide' (And.intro hb2 (And.intro ht (And.intro hk (And.intro hl (And.intro hc2 hr2)))));have HS:=hide' HS;clear hrun hk hl hb2 ht hrel hc2 hr2 hmm hq1 hqi hbs HON;generalize hq:vq.q=q at HS⊢;clear hq;go_wp2_with fail
   go_at_call 91;refine HS.out.mono ?_;rintro e w3 ⟨rfl,vs3,h3,k3,l3⟩;have HT3:=hide' (HTell.out w3 v2 _ vs3 _ h3 H2.out.2.2.2.2.1 H2.out.1);have H3:=hide' (And.intro k3 l3);clear h3 k3 l3;go_wp2_with fail
   go_at_call 89;refine HT3.out.mono ?_;rintro e w4 ⟨rfl,v4,h4,hc4,hr4,k4,l4,hb4⟩;have hk3:=H2.out.2.2.1.trans H3.out.1 H2.out.2.2.2.1;have hl3:=H2.out.2.2.2.1.trans H3.out.2 H2.out.2.2.1.size;have hk4:=hk3.trans k4 hl3.left;have hl4:=hl3.app hk3.size l4 (Later.refl _ _);have HN4:=hide' (HNext.out w4 v4 _ vs3 _ h4 hc4 (hr4.trans H2.out.2.2.2.2.2) hb4 hk4 hl4);clear h4 hc4 hr4 k4 l4 hk3 hl3 hk4 hl4 hb4;go_wp2_with fail
   go_at_call 90;refine HN4.out.mono ?_;rintro e w5 ⟨qv5,bv5,rfl,hon,hm⟩;rw[H2.out.2.1]at hon;have HM5:=hide' (show onM bv5 w5 R<onM (.bool true) wr R by rw[HMM.out];exact hm);have HON5:=hide' hon;clear hon hm;go_wp2_with fail
   go_roundw;case rel=>exact HON5
   case measure=>exact HM5.out
variable {i win T:Nat}{cis:List CliV}{cs:List CliQ}{v:CliV}{s s':CliQ}{ss' ss:List SrvQ}
theorem split_at {α:Type}{l:List α}{x:α}(h:l[i]?=some x):l=l.take i++x::l.drop (i+1):=by
 obtain⟨hi,e⟩:=List.getElem?_eq_some_iff.1 h;conv=>lhs;rw[←List.take_append_drop i l,List.drop_eq_getElem_cons hi,e]
theorem set_split {α:Type}{l:List α}{x:α}(h:l[i]?=some x)(y:α):l.set i y=l.take i++y::l.drop (i+1):=by
 obtain⟨hi,e⟩:=List.getElem?_eq_some_iff.1 h;rw[List.set_eq_take_append_cons_drop,if_pos hi]
theorem take_set' {α:Type}(l:List α)(i:Nat)(x:α):(l.set i x).take i=l.take i:=by
 apply List.ext_getElem?;intro j;rw[List.getElem?_take,List.getElem?_take];split
 ·rw[List.getElem?_set_ne (by omega)]
 ·rfl
theorem drop_set' {α:Type}(l:List α)(i:Nat)(x:α):(l.set i x).drop (i+1)=l.drop (i+1):=by
 apply List.ext_getElem?;intro j;rw[List.getElem?_drop,List.getElem?_drop,List.getElem?_set_ne (by omega)]
def opnJ (cis:List CliV)(cs:List CliQ):List (Nat×Nat×Value):=(cis.zip cs).flatMap (fun p=>opnV p.1.k.C p.1.qi p.2.qs)
def exJ (cis:List CliV)(cs:List CliQ)(i:Nat):List (Nat×Nat×Value):=opnJ (cis.take i) (cs.take i)++opnJ (cis.drop (i+1)) (cs.drop (i+1))
def opJ (cs:List CliQ):List (Nat×Nat):=cs.flatMap (fun c=>opQs c.qs)
def exAt (cs:List CliQ)(i:Nat):List (Nat×Nat):=opJ (cs.take i)++opJ (cs.drop (i+1))
theorem opnJ_app (A B:List CliV)(A' B':List CliQ)(h:A.length=A'.length):opnJ (A++B) (A'++B')=opnJ A A'++opnJ B B':=by
 unfold opnJ;rw[List.zip_append h,List.flatMap_append]
theorem opnJ_cons (v:CliV)(B:List CliV)(s:CliQ)(B':List CliQ):opnJ (v::B) (s::B')=opnV v.k.C v.qi s.qs++opnJ B B':=by
 unfold opnJ;simp
theorem opnJ_at (h:cis.length=cs.length)(hv:cis[i]?=some v)(hs:cs[i]?=some s):(opnJ cis cs).Perm (exJ cis cs i++opnV v.k.C v.qi s.qs):=by
 have e1:=split_at hv;have e2:=split_at hs;have hi:=(List.getElem?_eq_some_iff.1 hv).1;have e3:opnJ cis cs=opnJ (cis.take i) (cs.take i)++(opnV v.k.C v.qi s.qs++opnJ (cis.drop (i+1)) (cs.drop (i+1))):=by
  conv=>lhs;rw[e1,e2]
  rw[opnJ_app _ _ _ _ (by rw[List.length_take,List.length_take,h]),opnJ_cons]
 rw[e3];unfold exJ;rw[List.append_assoc];exact List.Perm.append_left _ List.perm_append_comm
theorem exJ_set (cis:List CliV)(cs:List CliQ)(i:Nat)(v:CliV)(s:CliQ):exJ (cis.set i v) (cs.set i s) i=exJ cis cs i:=by
 unfold exJ;rw[take_set',take_set',drop_set',drop_set']
theorem exAt_set (cs:List CliQ)(i:Nat)(s:CliQ):exAt (cs.set i s) i=exAt cs i:=by
 unfold exAt;rw[take_set',drop_set']
theorem forg_opnJ:∀(cis:List CliV) (cs:List CliQ),cis.length=cs.length→(∀(i:Nat) (v:CliV) (s:CliQ),cis[i]?=some v→cs[i]?=some s→v.qi.length=s.qs.length)→forg (opnJ cis cs)=opJ cs:=by
 intro cis;induction cis with
 |nil=>intro cs h _;cases cs with
  |nil=>rfl
  |cons s cs=>simp at h
 |cons v cis ih=>
  intro cs h hq;cases cs with
  |nil=>simp at h
  |cons s cs=>
   rw[opnJ_cons,forg_app,ih cs (by simpa using h) (fun i v s hv hs=>hq (i+1) v s (by simpa using hv) (by simpa using hs))];unfold opJ;rw[List.flatMap_cons];congr 1;exact opnV_forget _ _ _ (hq 0 v s rfl rfl)
theorem opJ_len:∀(cs:List CliQ) (N:Nat),(∀s∈cs,(opQs s.qs).length≤N)→(opJ cs).length≤N*cs.length:=by
 intro cs;induction cs with
 |nil=>intro N _;exact Nat.zero_le _
 |cons s cs ih=>
  intro N h;have h1:=ih N (fun x hx=>h x (by simp[hx]));have h2:=h s (by simp);unfold opJ at h1⊢;rw[List.flatMap_cons,List.length_append,List.length_cons,Nat.mul_add,Nat.mul_one];omega
structure JunQ (W:World)(X sv pt win g sc:Nat)(cv:Value)(cis:List CliV)(cs:List CliQ)(vs:List SrvV)(ss:List SrvQ):Prop where
 blk:W.heap[X]?=some (juO sv pt win cv (.slice (some ⟨g,0,none⟩) sv sc))
 gb:∃Zg,W.heap[g]?=some (.cells Zg 137 (0,0))∧∀(j:Nat) (u:SrvV),vs[j]?=some u→Zg[j]?=some (.pointer (some ⟨u.S,0,none⟩))
 len:vs.length=sv
 s1:1≤sv
 s4:sv≤4
 sc_:sv≤sc
 pt_:pt≤16
 w6:win≤6
 row:W.ownsRow 0 116 1 cv cis.length (cis.map (fun v=>ptrV v.k.C))
 cl:cis.length=cs.length
 c4:cis.length≤4
 cli:∀(i:Nat) (v:CliV) (s:CliQ),cis[i]?=some v→cs[i]?=some s→CliAt W win v s
 cap:∀(i j:Nat) (v u:CliV),i≠j→cis[i]?=some v→cis[j]?=some u→∀b∈v.foot,b∉u.foot
 srv:SrvsAt W vs ss
 ap:∀(i:Nat) (v:CliV),cis[i]?=some v→∀b∈v.foot,b∉feetS vs
 mr:∀(o:Nat) (u:SrvV),vs[o]?=some u→MapR o u.l (opnJ cis cs)
 wl:∀s∈cs,s.qs.length≤win
def footQ (X:Nat)(cv:Value)(cis:List CliV)(vs:List SrvV):List Nat:=X::(cv.ownBlock.toList++((cis.map CliV.foot).flatten++feetS vs))
theorem mem_civ {b:Nat}:b∈(cis.map CliV.foot).flatten↔∃(i:Nat) (v:CliV),cis[i]?=some v∧b∈v.foot:=by
 rw[List.mem_flatten];constructor
 ·rintro ⟨l,hl,hb⟩;obtain⟨v,hv,rfl⟩:=List.mem_map.1 hl;obtain⟨j,hj,e⟩:=List.mem_iff_getElem.1 hv;exact⟨j,v,by rw[List.getElem?_eq_getElem hj,e],hb⟩
 ·rintro ⟨j,v,hv,hb⟩;exact⟨v.foot,List.mem_map.2 ⟨v,List.mem_of_getElem? hv,rfl⟩,hb⟩
section
variable {W:World}{X sv pt win g sc:Nat}{cv:Value}{cis:List CliV}{cs:List CliQ}{vs:List SrvV}{ss:List SrvQ}
theorem JunQ.get (h:JunQ W X sv pt win g sc cv cis cs vs ss)(hv:cis[i]?=some v):∃s,cs[i]?=some s∧CliAt W win v s:=by
 have hi:i<cs.length:=by rw[←h.cl];exact(List.getElem?_eq_some_iff.1 hv).1
 exact⟨_,List.getElem?_eq_getElem hi,h.cli i v _ hv (List.getElem?_eq_getElem hi)⟩
theorem JunQ.getS (h:JunQ W X sv pt win g sc cv cis cs vs ss)(hs:cs[i]?=some s):∃v,cis[i]?=some v∧CliAt W win v s:=by
 have hi:i<cis.length:=by rw[h.cl];exact(List.getElem?_eq_some_iff.1 hs).1
 exact⟨_,List.getElem?_eq_getElem hi,h.cli i _ s (List.getElem?_eq_getElem hi) hs⟩
theorem JunQ.qlen (h:JunQ W X sv pt win g sc cv cis cs vs ss):∀(i:Nat) (v:CliV) (s:CliQ),cis[i]?=some v→cs[i]?=some s→v.qi.length=s.qs.length:=fun i v s hv hs=>(h.cli i v s hv hs).qu.len
theorem JunQ.op24 (h:JunQ W X sv pt win g sc cv cis cs vs ss):∀s∈cs,(opQs s.qs).length≤24:=fun s hs=>by
 obtain⟨i,hi,e⟩:=List.mem_iff_getElem.1 hs
 have e1:cs[i]?=some s:=by rw[List.getElem?_eq_getElem hi,e]
 obtain⟨v,hv,hc⟩:=h.getS e1
 have h1:=opQs_len s.qs 4 (fun x hx=>by
  have:=(hc.ok x hx).len;have:=(hc.ok x hx).w.cm.k4;omega)
 have h2:=h.wl s hs
 have h3:=h.w6
 omega
theorem JunQ.forg_ (h:JunQ W X sv pt win g sc cv cis cs vs ss)(i:Nat):forg (exJ cis cs i)=exAt cs i:=by
 unfold exJ exAt;rw[forg_app];congr 1
 ·refine forg_opnJ _ _ (by rw[List.length_take,List.length_take,h.cl]) (fun j v s hv hs=>?_);rw[List.getElem?_take]at hv hs;split at hv
  ·rw[if_pos ‹_›]at hs;exact h.qlen j v s hv hs
  ·cases hv
 ·refine forg_opnJ _ _ (by rw[List.length_drop,List.length_drop,h.cl]) (fun j v s hv hs=>?_);rw[List.getElem?_drop]at hv hs;exact h.qlen _ v s hv hs
theorem opnJ_part {p:Nat×Nat×Value}(h:p∈opnJ cis cs):∃(i k m:Nat) (v:CliV) (s:CliQ) (vq:QI) (x:QS),cis[i]?=some v∧cs[i]?=some s∧v.qi[k]?=some vq∧s.qs[k]?=some x∧p.2.2=partV v.k.C vq.q m∧x.ps[m]?=some (.op p.1 p.2.1):=by
 unfold opnJ at h;obtain⟨z,hz,h2⟩:=List.mem_flatMap.1 h;obtain⟨i,hi⟩:=List.mem_iff_getElem?.1 hz;rw[List.getElem?_zip_eq_some]at hi;unfold opnV at h2;obtain⟨y,hy,h3⟩:=List.mem_flatMap.1 h2;obtain⟨k,hk⟩:=List.mem_iff_getElem?.1 hy;rw[List.getElem?_zip_eq_some]at hk;obtain⟨m,_,h4,h5⟩:=opQ_part _ _ _ _ _ h3;exact⟨i,k,m,z.1,z.2,y.1,y.2,hi.1,hi.2,hk.1,hk.2,h4,by simpa using h5⟩
theorem JunQ.run (h:JunQ W X sv pt win g sc cv cis cs vs ss)(hv:cis[i]?=some v)(hs:cs[i]?=some s):RunQ W X sv pt win g sc cv (exJ cis cs i) v s vs ss:=by
 refine⟨h.blk,h.gb,h.len,h.s1,h.s4,h.sc_,h.pt_,h.cli i v s hv hs,h.srv,h.ap i v hv,fun o u hu=>(h.mr o u hu).perm (opnJ_at h.cl hv hs),fun p hp=>?_,?_⟩
 ·have hp':p∈opnJ cis cs:=(opnJ_at h.cl hv hs).mem_iff.2 (List.mem_append.2 (.inl hp));obtain⟨i,k,m,v,s,vq,x,_,_,_,_,e,_⟩:=opnJ_part hp';exact⟨_,_,_,e⟩
 ·have e1:(exJ cis cs i).length=(exAt cs i).length:=by rw[←h.forg_ i];unfold forg;rw[List.length_map]
  have h1:=opJ_len (cs.take i) 24 (fun x hx=>h.op24 x (List.mem_of_mem_take hx));have h2:=opJ_len (cs.drop (i+1)) 24 (fun x hx=>h.op24 x (List.mem_of_mem_drop hx));have hi:=(List.getElem?_eq_some_iff.1 hs).1;have h4:=h.c4;have h5:=h.cl;rw[List.length_take]at h1;rw[List.length_drop]at h2;have:(exAt cs i).length=(opJ (cs.take i)).length+(opJ (cs.drop (i+1))).length:=by unfold exAt;rw[List.length_append]
  omega
theorem JunQ.ran {W':World}{vs':List SrvV}(h:JunQ W X sv pt win g sc cv cis cs vs ss){v':CliV}(hv:cis[i]?=some v)(hr:RunQ W' X sv pt win g sc cv (exJ cis cs i) v' s' vs' ss')(hC:v'.k.C=v.k.C)(k:Chg (allQ v vs) W W')(hl:Later W (allQ v vs) (allQ v' vs'))(hw:s'.qs.length≤win):JunQ W' X sv pt win g sc cv (cis.set i v') (cs.set i s') vs' ss'∧Chg (footQ X cv cis vs) W W'∧Later W (footQ X cv cis vs) (footQ X cv (cis.set i v') vs'):=by
 have hil:=(List.getElem?_eq_some_iff.1 hv).1;have hil2:i<cs.length:=by rw[←h.cl];exact hil
 obtain⟨s0,hs0,hok0⟩:=h.get hv;have hmap:(cis.set i v').map (fun v=>ptrV v.k.C)=cis.map (fun v=>ptrV v.k.C):=by
  apply List.ext_getElem?;intro j;rw[List.getElem?_map,List.getElem?_map,List.getElem?_set];split
  ·rename_i e;subst e;rw[hv];simp[hC]
  ·rfl
 have old:∀(j:Nat) (u:CliV),cis[j]?=some u→∀b∈u.foot,b<W.heap.size:=fun j u hu b hb=>by
  obtain⟨s,hs,hok⟩:=h.get hu;exact hok.old b hb
 have kc:∀(j:Nat) (u:CliV),j≠i→cis[j]?=some u→∀b∈u.foot,b∉allQ v vs:=fun j u hj hu b hb hm=>by
  rcases List.mem_append.1 hm with e|e
  ·exact h.cap j i u v hj hu hv b hb e
  ·exact h.ap j u hu b hb e
 have nrow:∀gg,cv.ownBlock=some gg→gg∉allQ v vs:=fun gg hg hm=>by
  obtain⟨cur,hc⟩:=ownsRow_blk h.row hg;rcases List.mem_append.1 hm with e|e
  ·exact hok0.apart hc (by decide) e
  ·exact h.srv.apart hc (by decide) (by decide) e
 have hsub:∀b∈allQ v vs,b∈footQ X cv cis vs:=fun b hb=>by
  unfold footQ;rcases List.mem_append.1 hb with e|e
  ·exact List.mem_cons_of_mem _ (List.mem_append.2 (.inr (List.mem_append.2 (.inl (mem_civ.2 ⟨i,v,hv,e⟩)))))
  ·exact List.mem_cons_of_mem _ (List.mem_append.2 (.inr (List.mem_append.2 (.inr e))))
 refine⟨⟨hr.blk,hr.gb,hr.len,h.s1,h.s4,h.sc_,h.pt_,h.w6,?_,by simp[h.cl],by rw[List.length_set];exact h.c4,fun j u s hu hs=>?_,fun a j u1 u2 hij h1 h2 b hb1 hb2=>?_,hr.srv,fun j u hu b hb hm=>?_,fun o u hu=>?_,fun s hs=>?_⟩,k.more hsub,fun b hb=>?_⟩
 ·rw[hmap,List.length_set];exact ownsRow_other h.row (fun gg hg=>by
   obtain⟨cur,hc⟩:=ownsRow_blk h.row hg;exact k.block gg (blkLt hc) (nrow gg hg))
 ·by_cases hji:i=j
  ·subst hji;rw[List.getElem?_set_self hil]at hu;rw[List.getElem?_set_self hil2]at hs;cases hu;cases hs;exact hr.cli
  ·rw[List.getElem?_set_ne hji]at hu hs;have hok:=h.cli j u s hu hs;exact hok.keep (fun b hb=>k.block b (hok.old b hb) (kc j u (fun e=>hji e.symm) hu b hb))
 ·rw[List.getElem?_set]at h1 h2;split at h1
  ·rename_i e1;subst e1;split at h2
   ·rename_i e2;exact hij e2
   ·simp at h1;subst h1;rcases hl b (List.mem_append.2 (.inl hb1))with h3|h3
    ·exact kc j u2 (fun e=>hij e.symm) h2 b hb2 h3
    ·have:=old j u2 h2 b hb2;omega
  ·split at h2
   ·rename_i e2;subst e2;simp at h2;subst h2;rcases hl b (List.mem_append.2 (.inl hb2))with h3|h3
    ·exact kc a u1 hij h1 b hb1 h3
    ·have:=old a u1 h1 b hb1;omega
   ·exact h.cap a j u1 u2 hij h1 h2 b hb1 hb2
 ·rw[List.getElem?_set]at hu;split at hu
  ·simp at hu;subst hu;exact hr.ap b hb hm
  ·rename_i e;rcases hl b (List.mem_append.2 (.inr hm))with h3|h3
   ·exact kc j u (fun e2=>e e2.symm) hu b hb h3
   ·have:=old j u hu b hb;omega
 ·have hp:=opnJ_at (cis:=cis.set i v') (cs:=cs.set i s') (by simp[h.cl]) (List.getElem?_set_self hil) (List.getElem?_set_self hil2);rw[exJ_set]at hp;exact(hr.mr o u hu).perm hp.symm
 ·rcases List.mem_or_eq_of_mem_set hs with h1|h1
  ·exact h.wl s h1
  ·rw[h1];exact hw
 ·unfold footQ at hb;rcases List.mem_cons.1 hb with e|hb
  ·exact .inl (by rw[e];simp[footQ])
  rcases List.mem_append.1 hb with hb|hb
  ·exact .inl (by unfold footQ;exact List.mem_cons_of_mem _ (List.mem_append.2 (.inl hb)))
  have fromAll:b∈allQ v' vs'→b∈footQ X cv cis vs∨W.heap.size≤b:=fun hm=>by
   rcases hl b hm with h3|h3
   ·exact .inl (hsub b h3)
   ·exact .inr h3
  rcases List.mem_append.1 hb with hb|hb
  ·obtain⟨j,u,hu,hbu⟩:=mem_civ.1 hb;rw[List.getElem?_set]at hu;split at hu
   ·simp at hu;subst hu;exact fromAll (List.mem_append.2 (.inl hbu))
   ·exact .inl (by unfold footQ;exact List.mem_cons_of_mem _ (List.mem_append.2 (.inr (List.mem_append.2 (.inl (mem_civ.2 ⟨j,u,hu,hbu⟩))))))
  ·exact fromAll (List.mem_append.2 (.inr hb))
theorem JunQ.cvLen (h:JunQ W X sv pt win g sc cv cis cs vs ss):∃a c,cv= .slice a cis.length c:=by
 rcases h.row.2 with⟨e,h0⟩|⟨g',cap,cur,e,_⟩
 ·exact⟨_,_,by rw[e,h0]⟩
 ·exact⟨_,_,e⟩
theorem JunQ.cvAt (h:JunQ W X sv pt win g sc cv cis cs vs ss)(hv:cis[i]?=some v):∃gg c,cv= .slice (some ⟨gg,0,none⟩) cis.length c∧gg<W.heap.size∧W.cell? ⟨gg,i,none⟩=some (.pointer (some ⟨v.k.C,0,none⟩)):=by
 have hi:=(List.getElem?_eq_some_iff.1 hv).1;rcases h.row.2 with⟨e,h0⟩|⟨g',cap,cur,e,_,h1,h2,_,_,h5⟩
 ·omega
 ·refine⟨g',cap,e,blkLt h1,?_⟩;rw[blkCell h1 i];have h6:(cur.toList.take (cis.length*1))[i]?=(cis.map (fun v=>ptrV v.k.C))[i]?:=by rw[h5]
  rw[List.getElem?_take_of_lt (by omega),List.getElem?_map,hv]at h6;simpa [ptrV]using h6
end
def heldSum (cs:List CliQ):Nat:=(cs.map (fun s=>s.st.held.length)).sum
theorem heldSum_at (h:cs[i]?=some s):heldSum cs=heldSum (cs.take i)+(s.st.held.length+heldSum (cs.drop (i+1))):=by
 unfold heldSum;conv=>lhs;rw[split_at h]
 rw[List.map_append,List.sum_append,List.map_cons,List.sum_cons]
theorem heldSum_set (h:cs[i]?=some s)(s':CliQ):heldSum (cs.set i s')=heldSum (cs.take i)+(s'.st.held.length+heldSum (cs.drop (i+1))):=by
 unfold heldSum;rw[set_split h,List.map_append,List.sum_append,List.map_cons,List.sum_cons]
structure BdJ (win T:Nat)(cs:List CliQ)(ss:List SrvQ):Prop where
 told:∀s∈cs,s.told.length+1000*(s.qs.length+s.st.held.length)≤T
 wl:∀s∈cs,s.qs.length≤win
 srv:∀u∈ss,u.next<65536∧u.sent.length+4000*heldSum cs≤T
theorem BdJ.at_ (h:BdJ win T cs ss)(hs:cs[i]?=some s):BdQ win T (4000*(heldSum (cs.take i)+heldSum (cs.drop (i+1)))) s ss:=by
 have hm:=List.mem_of_getElem? hs;refine⟨h.told s hm,h.wl s hm,fun u hu=>?_⟩;have:=h.srv u hu;rw[heldSum_at hs]at this;exact⟨this.1,by omega⟩
theorem BdJ.set (h:BdJ win T cs ss)(hs:cs[i]?=some s)(hb:BdQ win T (4000*(heldSum (cs.take i)+heldSum (cs.drop (i+1)))) s' ss'):BdJ win T (cs.set i s') ss':=by
 refine⟨fun x hx=>?_,fun x hx=>?_,fun u hu=>?_⟩
 ·rcases List.mem_or_eq_of_mem_set hx with h1|h1
  ·exact h.told x h1
  ·rw[h1];exact hb.told
 ·rcases List.mem_or_eq_of_mem_set hx with h1|h1
  ·exact h.wl x h1
  ·rw[h1];exact hb.wl
 ·have:=hb.srv u hu;rw[heldSum_set hs];exact⟨this.1,by omega⟩
def runJ (sv pt win i:Nat)(st:List CliQ×List SrvQ):List CliQ×List SrvQ:=
 match st.1[i]?with
 |none=>st
 |some s=>(st.1.set i (servQ sv pt win (exAt st.1 i) (tellQs s) st.2).1,(servQ sv pt win (exAt st.1 i) (tellQs s) st.2).2)
theorem readOn_jun {w:World}{X sv pt g sc:Nat}{cv:Value}{vs:List SrvV}(h:JunQ w X sv pt win g sc cv cis cs vs ss)(hv:cis[i]?=some v)(hT:T+5000≤100000000000)(hb:BdJ win T cs ss):Calls Tryz.prog 59 #[.pointer (some ⟨X,0,none⟩),.pointer (some ⟨v.k.C,0,none⟩)] w fun e w'=>e= .returned (.tuple #[])∧∃v' vs',v'.k.C=v.k.C∧JunQ w' X sv pt win g sc cv (cis.set i v') (runJ sv pt win i (cs,ss)).1 vs' (runJ sv pt win i (cs,ss)).2∧BdJ win T (runJ sv pt win i (cs,ss)).1 (runJ sv pt win i (cs,ss)).2∧Chg (footQ X cv cis vs) w w'∧Later w (footQ X cv cis vs) (footQ X cv (cis.set i v') vs'):=by
 obtain⟨s,hs,_⟩:=h.get hv;have hw6:=h.w6;refine(readOn_runQ (h.run hv hs) hT (by omega) (hb.at_ hs)).mono ?_;rintro e w' ⟨rfl,v',vs',h1,h2,h3,h4,h5⟩;obtain⟨r1,r2,r3⟩:=h.ran hv h1 h2 h4 h5 h3.wl;rw[h.forg_ i]at r1 h3;refine⟨rfl,v',vs',h2,?_,?_,r2,r3⟩
 ·unfold runJ;simp only[hs]
  exact r1
 ·unfold runJ;simp only[hs]
  exact hb.set hs h3
variable {o id m:Nat}{p:Nat×Value}{ps:List PS}{vq:QI}{P Q:List (Nat×Nat×Value)}{e:Nat×Nat×Value}{l:List (Nat×Value)}{W W':World}{c:Cmd}
def isOp (o id:Nat):PS→Bool
 |⟨.inl (some (a,b))⟩=>a==o&&b==id
 |_=>false
theorem isOp_iff {p:PS}:isOp o id p=true↔p= .op o id:=by
 cases p using PS.el with
 |op a b=>simp[isOp]
 |_=>simp[isOp]
def findM (o id:Nat):List PS→Nat→Option Nat
 | [],_=>none
 |p::ps,m=>if isOp o id p=true then some m else findM o id ps (m+1)
def findK (o id:Nat):List QS→Nat→Option (Nat×Nat)
 | [],_=>none
 |x::xs,k=>match findM o id x.ps 0 with
  |some m=>some (k,m)
  |none=>findK o id xs (k+1)
def findP (o id:Nat):List CliQ→Nat→Option (Nat×Nat×Nat)
 | [],_=>none
 |s::cs,i=>match findK o id s.qs 0 with
  |some (k,m)=>some (i,k,m)
  |none=>findP o id cs (i+1)
theorem findM_some (o id:Nat):∀(ps:List PS) (m0 m:Nat),findM o id ps m0=some m→∃j,m=m0+j∧ps[j]?=some (.op o id):=by
 intro ps;induction ps with
 |nil=>intro m0 m h;cases h
 |cons p ps ih=>
  intro m0 m h;unfold findM at h;split at h
  ·rename_i hp;cases h;exact⟨0,rfl,by rw[isOp_iff.1 hp];rfl⟩
  ·obtain⟨j,e,hj⟩:=ih _ _ h;exact⟨j+1,by omega,by simpa using hj⟩
theorem findM_none (o id:Nat):∀(ps:List PS) (m0:Nat),findM o id ps m0=none→∀p∈ps,p≠ .op o id:=by
 intro ps;induction ps with
 |nil=>intro m0 h p hp;cases hp
 |cons p ps ih=>
  intro m0 h q hq;unfold findM at h;split at h
  ·cases h
  ·rename_i hn;rcases List.mem_cons.1 hq with e|e
   ·rw[e];intro e2;exact hn (isOp_iff.2 e2)
   ·exact ih _ h q e
theorem findK_some (o id:Nat):∀(xs:List QS) (k0 k m:Nat),findK o id xs k0=some (k,m)→∃j x,k=k0+j∧xs[j]?=some x∧x.ps[m]?=some (.op o id):=by
 intro xs;induction xs with
 |nil=>intro k0 k m h;cases h
 |cons x xs ih=>
  intro k0 k m h;unfold findK at h;split at h
  ·rename_i m' hm;cases h;obtain⟨j,e,hj⟩:=findM_some _ _ _ _ _ hm;rw[Nat.zero_add]at e;subst e;exact⟨0,x,rfl,rfl,hj⟩
  ·obtain⟨j,y,e,hj,h2⟩:=ih _ _ _ h;exact⟨j+1,y,by omega,by simpa using hj,h2⟩
theorem findK_none (o id:Nat):∀(xs:List QS) (k0:Nat),findK o id xs k0=none→∀x∈xs,∀p∈x.ps,p≠ .op o id:=by
 intro xs;induction xs with
 |nil=>intro k0 h x hx;cases hx
 |cons x xs ih=>
  intro k0 h y hy;unfold findK at h;split at h
  ·cases h
  ·rename_i hm;rcases List.mem_cons.1 hy with e|e
   ·rw[e];exact findM_none _ _ _ _ hm
   ·exact ih _ h y e
theorem findP_some (o id:Nat):∀(cs:List CliQ) (i0 i k m:Nat),findP o id cs i0=some (i,k,m)→∃j s x,i=i0+j∧cs[j]?=some s∧s.qs[k]?=some x∧x.ps[m]?=some (.op o id):=by
 intro cs;induction cs with
 |nil=>intro i0 i k m h;cases h
 |cons s cs ih=>
  intro i0 i k m h;unfold findP at h;split at h
  ·rename_i k' m' hk;cases h;obtain⟨j,x,e,hj,h2⟩:=findK_some _ _ _ _ _ _ hk;rw[Nat.zero_add]at e;subst e;exact⟨0,s,x,rfl,rfl,hj,h2⟩
  ·obtain⟨j,s',x,e,hj,h2⟩:=ih _ _ _ _ h;exact⟨j+1,s',x,by omega,by simpa using hj,h2⟩
theorem findP_none (o id:Nat):∀(cs:List CliQ) (i0:Nat),findP o id cs i0=none→∀s∈cs,∀x∈s.qs,∀p∈x.ps,p≠ .op o id:=by
 intro cs;induction cs with
 |nil=>intro i0 h s hs;cases hs
 |cons s cs ih=>
  intro i0 h y hy;unfold findP at h;split at h
  ·cases h
  ·rename_i hk;rcases List.mem_cons.1 hy with e|e
   ·rw[e];exact findK_none _ _ _ _ hk
   ·exact ih _ h y e
theorem opQ_cut (C q:Nat)(h:ps[m]?=some (.op o id))(i0:Nat):∃P Q,opQ C q i0 ps=P++(o,id,partV C q ((i0+m:Nat):Int))::Q∧∀st v,opQ C q i0 (ps.set m (.an st v))=P++Q:=by
 have hm:=(List.getElem?_eq_some_iff.1 h).1;have hl:(ps.take m).length=m:=by rw[List.length_take];omega
 refine⟨opQ C q i0 (ps.take m),opQ C q (i0+m+1) (ps.drop (m+1)),?_,fun st v=>?_⟩
 ·conv=>lhs;rw[split_at h,opQ_app,hl]
  rfl
 ·rw[set_split h,opQ_app,hl];rfl
theorem opnV_cut (C:Nat){qi:List QI}{xs:List QS}(hl:qi.length=xs.length){k:Nat}{x:QS}(hv:qi[k]?=some vq)(hx:xs[k]?=some x)(h:opQ C vq.q 0 x.ps=P++e::Q):∃P' Q',opnV C qi xs=P'++e::Q'∧∀x':QS,opQ C vq.q 0 x'.ps=P++Q→opnV C qi (xs.set k x')=P'++Q':=by
 have e1:=split_at hv;have e2:=split_at hx;have hll:(qi.take k).length=(xs.take k).length:=by rw[List.length_take,List.length_take,hl]
 have app:∀(y:QS),opnV C (qi.take k++vq::qi.drop (k+1)) (xs.take k++y::xs.drop (k+1))=opnV C (qi.take k) (xs.take k)++(opQ C vq.q 0 y.ps++opnV C (qi.drop (k+1)) (xs.drop (k+1))):=fun y=>by
  unfold opnV;rw[List.zip_append hll,List.flatMap_append];simp
 refine⟨opnV C (qi.take k) (xs.take k)++P,Q++opnV C (qi.drop (k+1)) (xs.drop (k+1)),?_,fun x' hx'=>?_⟩
 ·conv=>lhs;rw[e1,e2]
  rw[app x,h];simp
 ·rw[set_split hx];conv=>lhs;rw[e1]
  rw[app x',hx'];simp
theorem opnJ_cut {cis:List CliV}{cs:List CliQ}(hl:cis.length=cs.length){i:Nat}{v:CliV}{s:CliQ}(hv:cis[i]?=some v)(hs:cs[i]?=some s)(h:opnV v.k.C v.qi s.qs=P++e::Q):∃P' Q',opnJ cis cs=P'++e::Q'∧∀s':CliQ,opnV v.k.C v.qi s'.qs=P++Q→opnJ cis (cs.set i s')=P'++Q':=by
 have e1:=split_at hv;have e2:=split_at hs;have hll:(cis.take i).length=(cs.take i).length:=by rw[List.length_take,List.length_take,hl]
 refine⟨opnJ (cis.take i) (cs.take i)++P,Q++opnJ (cis.drop (i+1)) (cs.drop (i+1)),?_,fun s' hs'=>?_⟩
 ·conv=>lhs;rw[e1,e2]
  rw[opnJ_app _ _ _ _ hll,opnJ_cons,h];simp
 ·rw[set_split hs];conv=>lhs;rw[e1]
  rw[opnJ_app _ _ _ _ hll,opnJ_cons,hs'];simp
theorem MapR.same {os:List (Nat×Nat×Value)}(h:MapR o l os){q:Nat×Value}(hp:p∈l)(hq:q∈l)(e:p.1=q.1):p=q:=by
 obtain⟨i,hi,ei⟩:=List.mem_iff_getElem.1 hp;obtain⟨j,hj,ej⟩:=List.mem_iff_getElem.1 hq;have h1:(l.map (·.1))[i]?=(l.map (·.1))[j]?:=by
  rw[List.getElem?_map,List.getElem?_map,List.getElem?_eq_getElem hi,List.getElem?_eq_getElem hj,ei,ej];simp[e]
 have h2:=(List.getElem?_inj (by simpa using hi) h.nd).1 h1;subst h2;rw[←ei,←ej]
theorem MapR.take {pv:Value}(h:MapR o l (P++(o,id,pv)::Q)){j:Nat}(hj:l[j]?=some p)(hp:p.1=id):MapR o (l.eraseIdx j) (P++Q):=by
 have hpl:=List.mem_of_getElem? hj;have hxl:(id,pv)∈l:=h.mem.2 (by simp);have hpe:p=(id,pv):=h.same hpl hxl hp;subst hpe;have hjl:=(List.getElem?_eq_some_iff.1 hj).1;have e1:l=l.take j++(id,pv)::l.drop (j+1):=split_at hj;have e2:l.eraseIdx j=l.take j++l.drop (j+1):=List.eraseIdx_eq_take_drop_succ l j;have p1:l.Perm ((id,pv)::l.eraseIdx j):=by
  conv=>lhs;rw[e1]
  rw[e2];exact List.perm_middle
 refine⟨?_,?_⟩
 ·have p2:((id,pv)::l.eraseIdx j).Perm ((id,pv)::((P++Q).filter (fun p=>p.1==o)).map (·.2)):=by
   refine p1.symm.trans (h.pm.trans ?_);rw[List.filter_append,List.filter_cons,if_pos (by simp),List.filter_append,List.map_append,List.map_cons,List.map_append];exact List.perm_middle
  exact List.Perm.cons_inv p2
 ·have:(((id,pv)::l.eraseIdx j).map (·.1)).Nodup:=((p1.map (·.1)).nodup_iff).1 h.nd;rw[List.map_cons]at this;exact(List.nodup_cons.1 this).2
theorem MapR.skip {o':Nat}(h:MapR o l (P++(o',p)::Q))(hn:o'≠o):MapR o l (P++Q):=by
 refine⟨?_,h.nd⟩;have:=h.pm;rw[List.filter_append,List.filter_cons,if_neg (by simpa using hn),←List.filter_append]at this;exact this
theorem qd_an (vq:QI)(c:Cmd)(a b:List PS)(o id st:Nat)(v:ByteArray):(QS.n ⟨c,a++ .op o id::b⟩=QS.n ⟨c,a++ .an st v::b⟩+1)∧qdOf vq ⟨c,a++ .an st v::b⟩={qdOf vq ⟨c,a++ .op o id::b⟩with n:=QS.n ⟨c,a++ .an st v::b⟩,re:=QS.re ⟨c,a++ .op o id::b⟩ || decide (st=2)}∧yesC (a++ .an st v::b)=(yesC (a++ .op o id::b)).set! a.length (.bool (decide (st=0)))∧valC (a++ .an st v::b)=(valC (a++ .op o id::b)).set! a.length (.string v):=by
 refine⟨?_,?_,?_,?_⟩
 ·unfold QS.n;simp[List.countP_cons,PS.opn];try omega
 ·unfold qdOf QS.n QS.fa QS.re;simp[PS.opn,PS.bad,PS.ref];cases (a.any PS.ref)<;>cases (b.any PS.ref)<;>simp
 ·unfold yesC;apply Array.ext';simp[PS.yes]
 ·unfold valC;apply Array.ext';simp[PS.val]
theorem set_at {p:PS}(h:ps[m]?=some p):(ps.take m).length=m:=by
 have:=(List.getElem?_eq_some_iff.1 h).1;rw[List.length_take];omega
theorem QuAt.toAn {st:Nat}{v:ByteArray}(h:QuAt W vq ⟨c,ps⟩)(hm:ps[m]?=some (.op o id))(hk:∀b∈vq.kb.toList,W'.heap[b]?=W.heap[b]?)(hq:W'.heap[vq.q]?=some (qdO {qdOf vq ⟨c,ps⟩with n:=QS.n ⟨c,ps.set m (.an st v)⟩,re:=QS.re ⟨c,ps⟩ || decide (st=2)}))(hy:W'.heap[vq.yb]?=some (.cells ((yesC ps).set! m (.bool (decide (st=0)))) 4 (0,0)))(hv:W'.heap[vq.vb]?=some (.cells ((valC ps).set! m (.string v)) 9 (0,0))):QuAt W' vq ⟨c,ps.set m (.an st v)⟩:=by
 have e1:=split_at hm;have e2:=set_split hm (.an st v);have e3:=set_at hm;obtain⟨_,b1,b2,b3⟩:=qd_an vq c (ps.take m) (ps.drop (m+1)) o id st v;rw[←e1,←e2,e3]at b2 b3;rw[←e1,←e2]at b1;refine⟨?_,?_,?_,?_⟩
 ·rw[b1];exact hq
 ·show _=some (Obj.cells (yesC (ps.set m (.an st v))) 4 (0,0));rw[b2];exact hy
 ·show _=some (Obj.cells (valC (ps.set m (.an st v))) 9 (0,0));rw[b3];exact hv
 ·rcases h.keys with e|⟨b',c',Z,f1,f2,f3,f4,hZ,f5⟩
  ·exact .inl e
  ·exact .inr ⟨b',c',Z,f1,f2,f3,f4,(hk b' (by rw[f1];simp)).trans hZ,f5⟩
theorem qn_an (hm:ps[m]?=some (.op o id))(st:Nat)(v:ByteArray):QS.n ⟨c,ps⟩=QS.n ⟨c,ps.set m (.an st v)⟩+1:=by
 have e1:=split_at hm;have e2:=set_split hm (.an st v);obtain⟨b1,_⟩:=qd_an ⟨0,0,0,none,.slice none 0 0⟩ c (ps.take m) (ps.drop (m+1)) o id st v;rw[←e1,←e2]at b1;exact b1
theorem SrvsAt.put {vs:List SrvV}{ss:List SrvQ}(h:SrvsAt W vs ss){v v':SrvV}{s':SrvQ}(hv:vs[o]?=some v)(hc:∀b∈feetS vs,b∉v.foot→W'.heap[b]?=W.heap[b]?)(hn:SrvAt W' v' s')(hl:Later W v.foot v'.foot):SrvsAt W' (vs.set o v') (ss.set o s')∧Later W (feetS vs) (feetS (vs.set o v')):=by
 have hol:=(List.getElem?_eq_some_iff.1 hv).1;refine⟨⟨by simp[h.len],fun j u s hu hs=>?_,fun i j u1 u2 hij h1 h2 b hb1 hb2=>?_⟩,fun b hb=>?_⟩
 ·by_cases hjo:o=j
  ·subst hjo;rw[List.getElem?_set_self hol]at hu;rw[List.getElem?_set_self (by rw[←h.len];exact hol)]at hs;cases hu;cases hs;exact hn
  ·rw[List.getElem?_set_ne hjo]at hu hs;have hok:=h.ok j u s hu hs;exact hok.keep (fun b hb=>hc b (mem_feetS.2 ⟨j,u,hu,hb⟩) (h.ap j o u v (fun e=>hjo e.symm) hu hv b hb))
 ·rw[List.getElem?_set]at h1 h2;have oldb:∀(k:Nat) (u:SrvV),vs[k]?=some u→∀b∈u.foot,b<W.heap.size:=fun k u hu b hb=>h.old b (mem_feetS.2 ⟨k,u,hu,hb⟩)
  split at h1
  ·rename_i e1;subst e1;split at h2
   ·rename_i e2;exact hij e2
   ·simp at h1;subst h1;rcases hl b hb1 with h3|h3
    ·exact h.ap o j v u2 hij hv h2 b h3 hb2
    ·have:=oldb j u2 h2 b hb2;omega
  ·split at h2
   ·rename_i e2;subst e2;simp at h2;subst h2;rcases hl b hb2 with h3|h3
    ·exact h.ap i o u1 v hij h1 hv b hb1 h3
    ·have:=oldb i u1 h1 b hb1;omega
   ·exact h.ap i j u1 u2 hij h1 h2 b hb1 hb2
 ·obtain⟨j,u,hu,hbu⟩:=mem_feetS.1 hb;rw[List.getElem?_set]at hu;split at hu
  ·rename_i e;subst e;simp at hu;subst hu;rcases hl b hbu with h3|h3
   ·exact .inl (mem_feetS.2 ⟨o,v,hv,h3⟩)
   ·exact .inr h3
  ·exact .inl (mem_feetS.2 ⟨j,u,hu,hbu⟩)
structure HO where
 v:Bool⊕(Nat×Nat×Nat×Reply)
abbrev HO.stop (ok:Bool):HO:=⟨.inl ok⟩
abbrev HO.got (i k m:Nat)(r:Reply):HO:=⟨.inr (i,k,m,r)⟩
theorem HO.el {q:HO→Prop}(stop:∀a,q (.stop a))(got:∀a b c d,q (.got a b c d))(p:HO):q p:=match p with|⟨.inl a⟩=>stop a|⟨.inr (a,b,c,d)⟩=>got a b c d
def kindAt (cs:List CliQ)(i k:Nat):Int:=match cs[i]?with
 |none=>0
 |some s=>match s.qs[k]?with
  |none=>0
  |some x=>x.c.kind
def hearO (cs:List CliQ)(s:SrvQ)(o:Nat):HO:=
 match fromR s.held with
 |(none,ok)=> .stop ok
 |(some r,_)=>match findP o r.id cs 0 with
  |none=> .stop false
  |some (i,k,m)=>if mayB (kindAt cs i k) r=true then .got i k m r else .stop false
def anC (s:CliQ)(k m:Nat)(r:Reply):CliQ:=match s.qs[k]?with
 |none=>s
 |some x=>{s with qs:=s.qs.set k ⟨x.c,x.ps.set m (.an r.st r.val)⟩}
def anJ (cs:List CliQ)(i k m:Nat)(r:Reply):List CliQ:=match cs[i]?with
 |none=>cs
 |some s=>cs.set i (anC s k m r)
set_option maxHeartbeats 1000000
variable {i k m o:Nat}{v:CliV}{s:CliQ}{x:QS}{u:SrvV}{su:SrvQ}
section
variable {W:World}{X sv pt win g sc:Nat}{cv:Value}{cis:List CliV}{cs:List CliQ}{vs:List SrvV}{ss:List SrvQ}
theorem JunQ.nX (h:JunQ W X sv pt win g sc cv cis cs vs ss):(∀(i:Nat) (v:CliV),cis[i]?=some v→X∉v.foot∧g∉v.foot)∧X∉feetS vs∧g∉feetS vs:=by
 obtain⟨Zg,h1,h2⟩:=h.gb;refine⟨fun i v hv=>?_,h.srv.apart h.blk (by decide) (by decide),h.srv.apart h1 (by decide) (by decide)⟩;obtain⟨s,_,hc⟩:=h.get hv;exact⟨hc.apart h.blk (by decide),hc.apart h1 (by decide)⟩
theorem JunQ.nRow (h:JunQ W X sv pt win g sc cv cis cs vs ss){gg:Nat}(hg:cv.ownBlock=some gg):gg<W.heap.size∧(∀(i:Nat) (v:CliV),cis[i]?=some v→gg∉v.foot)∧gg∉feetS vs:=by
 obtain⟨cur,hc⟩:=ownsRow_blk h.row hg;refine⟨blkLt hc,fun i v hv=>?_,h.srv.apart hc (by decide) (by decide)⟩;obtain⟨s,_,hok⟩:=h.get hv;exact hok.apart hc (by decide)
theorem civ_old (h:JunQ W X sv pt win g sc cv cis cs vs ss)(hv:cis[i]?=some v):∀b∈v.foot,b<W.heap.size:=fun b hb=>by
 obtain⟨s,hs,hok⟩:=h.get hv
 exact hok.old b hb
theorem JunQ.part (h:JunQ W X sv pt win g sc cv cis cs vs ss){id:Nat}(hs:cs[i]?=some s)(hx:s.qs[k]?=some x)(hm:x.ps[m]?=some (.op o id)):∃v vq,cis[i]?=some v∧v.qi[k]?=some vq∧∃P Q,opnJ cis cs=P++(o,id,partV v.k.C vq.q m)::Q∧∀(st:Nat) (w:ByteArray),opnJ cis (cs.set i {s with qs:=s.qs.set k ⟨x.c,x.ps.set m (.an st w)⟩})=P++Q:=by
 obtain⟨v,hv,hc⟩:=h.getS hs;have hk:k<v.qi.length:=by rw[hc.qu.len];exact(List.getElem?_eq_some_iff.1 hx).1
 obtain⟨vq,hvq⟩:∃vq,v.qi[k]?=some vq:=⟨_,List.getElem?_eq_getElem hk⟩
 refine⟨v,vq,hv,hvq,?_⟩;obtain⟨P1,Q1,a1,a2⟩:=opQ_cut v.k.C vq.q hm 0;rw[Nat.zero_add]at a1;obtain⟨P2,Q2,b1,b2⟩:=opnV_cut v.k.C hc.qu.len hvq hx a1;obtain⟨P3,Q3,c1,c2⟩:=opnJ_cut h.cl hv hs b1;exact⟨P3,Q3,c1,fun st w=>c2 _ (b2 _ (a2 st w))⟩
theorem JunQ.heard {W':World}(h:JunQ W X sv pt win g sc cv cis cs vs ss){u':SrvV}{su':SrvQ}{vq:QI}{r:Reply}{F:List Nat}(hu:vs[o]?=some u)(hsu:ss[o]?=some su)(hv:cis[i]?=some v)(hs:cs[i]?=some s)(hvq:v.qi[k]?=some vq)(hx:s.qs[k]?=some x)(hq:QuAt W' vq ⟨x.c,x.ps.set m (.an r.st r.val)⟩)(hok:QSOk s.d ⟨x.c,x.ps.set m (.an r.st r.val)⟩)(hsv:SrvAt W' u' su')(hS:u'.S=u.S)(hl:Later W u.foot u'.foot)(hc:Chg F W W')(hF:∀b∈F,b∈u.foot∨b∈vq.foot)(hmr:∀(o':Nat) (z:SrvV),(vs.set o u')[o']?=some z→MapR o' z.l (opnJ cis (cs.set i {s with qs:=s.qs.set k ⟨x.c,x.ps.set m (.an r.st r.val)⟩}))):JunQ W' X sv pt win g sc cv cis (cs.set i {s with qs:=s.qs.set k ⟨x.c,x.ps.set m (.an r.st r.val)⟩}) (vs.set o u') (ss.set o su')∧Chg (footQ X cv cis vs) W W'∧Later W (footQ X cv cis vs) (footQ X cv cis (vs.set o u')):=by
 have hil:=(List.getElem?_eq_some_iff.1 hs).1;have hol:=(List.getElem?_eq_some_iff.1 hu).1;obtain⟨nx1,nx2,nx3⟩:=h.nX;have hvf:∀b∈vq.foot,b∈v.foot:=fun b hb=>List.mem_append.2 (.inr (mem_feetQ.2 ⟨vq,List.mem_of_getElem? hvq,hb⟩))
 have huf:∀b∈u.foot,b∈feetS vs:=fun b hb=>mem_feetS.2 ⟨o,u,hu,hb⟩
 have kk:∀b,b<W.heap.size→b∉u.foot→b∉vq.foot→W'.heap[b]?=W.heap[b]?:=fun b hb n1 n2=>hc.block b hb (fun hm=>by
  rcases hF b hm with e|e
  ·exact n1 e
  ·exact n2 e)
 obtain⟨r1,r2⟩:=h.srv.put hu (fun b hb hn=>kk b (h.srv.old b hb) hn (fun e=>h.ap i v hv b (hvf b e) hb)) hsv hl;obtain⟨Zg,g1,g2⟩:=h.gb;have hsub:∀b∈F,b∈footQ X cv cis vs:=fun b hb=>by
  unfold footQ;rcases hF b hb with e|e
  ·exact List.mem_cons_of_mem _ (List.mem_append.2 (.inr (List.mem_append.2 (.inr (huf b e)))))
  ·exact List.mem_cons_of_mem _ (List.mem_append.2 (.inr (List.mem_append.2 (.inl (mem_civ.2 ⟨i,v,hv,hvf b e⟩)))))
 refine⟨⟨(kk X (blkLt h.blk) (fun e=>nx2 (huf X e)) (fun e=>(nx1 i v hv).1 (hvf X e))).trans h.blk,⟨Zg,(kk g (blkLt g1) (fun e=>nx3 (huf g e)) (fun e=>(nx1 i v hv).2 (hvf g e))).trans g1,fun j z hz=>?_⟩,by rw[List.length_set];exact h.len,h.s1,h.s4,h.sc_,h.pt_,h.w6,?_,by rw[List.length_set];exact h.cl,h.c4,fun j z y hz hy=>?_,h.cap,r1,fun j z hz b hb hm'=>?_,hmr,fun y hy=>?_⟩,hc.more hsub,fun b hb=>?_⟩
 ·rw[List.getElem?_set]at hz;split at hz
  ·rename_i e;subst e;simp at hz;subst hz;rw[hS];exact g2 o u hu
  ·exact g2 j z hz
 ·exact ownsRow_other h.row (fun gg hg=>by
   obtain⟨a1,a2,a3⟩:=h.nRow hg;exact kk gg a1 (fun e=>a3 (huf gg e)) (fun e=>a2 i v hv (hvf gg e)))
 ·by_cases hji:i=j
  ·subst hji;rw[hv]at hz;cases hz;rw[List.getElem?_set_self hil]at hy;cases hy;exact(h.cli i v s hv hs).quTo hvq hx (fun b hb hn=>kk b (civ_old h hv b hb) (fun e=>h.ap i v hv b hb (huf b e)) hn) hq rfl hok
  ·rw[List.getElem?_set_ne hji]at hy;exact(h.cli j z y hz hy).keep (fun b hb=>kk b (civ_old h hz b hb) (fun e=>h.ap j z hz b hb (huf b e)) (fun e=>h.cap j i z v (fun e2=>hji e2.symm) hz hv b hb (hvf b e)))
 ·rcases r2 b hm' with h3|h3
  ·exact h.ap j z hz b hb h3
  ·have:=civ_old h hz b hb;omega
 ·rcases List.mem_or_eq_of_mem_set hy with h1|h1
  ·exact h.wl y h1
  ·rw[h1];show(s.qs.set k _).length≤win;rw[List.length_set];exact h.wl s (List.mem_of_getElem? hs)
 ·unfold footQ at hb⊢;rcases List.mem_cons.1 hb with e|hb
  ·exact .inl (by rw[e];simp)
  rcases List.mem_append.1 hb with hb|hb
  ·exact .inl (List.mem_cons_of_mem _ (List.mem_append.2 (.inl hb)))
  rcases List.mem_append.1 hb with hb|hb
  ·exact .inl (List.mem_cons_of_mem _ (List.mem_append.2 (.inr (List.mem_append.2 (.inl hb)))))
  ·rcases r2 b hb with h3|h3
   ·exact .inl (List.mem_cons_of_mem _ (List.mem_append.2 (.inr (List.mem_append.2 (.inr h3)))))
   ·exact .inr h3
end
theorem hear_jun {W:World}{X sv pt win g sc:Nat}{cv:Value}{cis:List CliV}{cs:List CliQ}{vs:List SrvV}{ss:List SrvQ}(h:JunQ W X sv pt win g sc cv cis cs vs ss)(hu:vs[o]?=some u)(hsu:ss[o]?=some su):
 Calls Tryz.prog 94 #[.pointer (some ⟨u.S,0,none⟩)] W fun e w'=>match hearO cs su o with
  |⟨.inl ok⟩=>e= .returned (.tuple #[.pointer none,.bool ok])∧Below W.heap.size W w'
  |⟨.inr (i,k,m,r)⟩=>∃v u',cis[i]?=some v∧7≤r.used∧r.used≤su.held.length∧u'.S=u.S∧e= .returned (.tuple #[.pointer (some ⟨v.k.C,0,none⟩),.bool true])∧JunQ w' X sv pt win g sc cv cis (anJ cs i k m r) (vs.set o u') (ss.set o {su with held:=su.held.drop r.used})∧Chg (footQ X cv cis vs) W w'∧Later W (footQ X cv cis vs) (footQ X cv cis (vs.set o u')):=by
 have hsv:=h.srv.ok o u su hu hsu
 have hMR:=h.mr o u hu
 unfold hearO
 rcases hf:fromR su.held with⟨ro,ok⟩
 cases ro with
 |none=>
  simp only
  refine(hear_none u.S u.hb _ su.held ok W hsv.inb hf).mono ?_;rintro e w' ⟨h1,h2⟩;exact⟨h1,h2⟩
 |some r=>
  obtain⟨hok,hst,hid,hvs,hu7,hul⟩:=fromR_some hf;subst hok;simp only
  cases hp:findP o r.id cs 0 with
  |none=>
   simp only
   have hno:∀p∈u.l,p.1≠r.id:=fun p hpl e=>by
    obtain⟨i,k,m,v,s,vq,x,_,hs,_,hx,_,hm⟩:=opnJ_part (hMR.mem.1 hpl);rw[show(o,p).2.1=r.id from e]at hm;exact findP_none o r.id cs 0 hp s (List.mem_of_getElem? hs) x (List.mem_of_getElem? hx) _ (List.mem_of_getElem? hm) rfl
   refine(hear_unknown u.S u.hb _ su.held r u.l W hsv.inb hf hsv.mp hno).mono ?_;rintro e w' ⟨h1,h2⟩;exact⟨h1,h2⟩
  |some z=>
   obtain⟨i,k,m⟩:=z;simp only
   obtain⟨i',s,x,e1,hs,hx,hm⟩:=findP_some o r.id cs 0 i k m hp;rw[Nat.zero_add]at e1;subst e1;obtain⟨v,vq,hv,hvq,P,Q,hP,hPQ⟩:=h.part hs hx hm;have hkind:kindAt cs i k=x.c.kind:=by unfold kindAt;rw[hs];simp only;rw[hx]
   have hcli:=h.cli i v s hv hs;have hQ:=hcli.qu.qu k vq x hvq hx;have hxk:=hcli.ok x (List.mem_of_getElem? hx);have hml:=(List.getElem?_eq_some_iff.1 hm).1;have hlen:=hxk.len;have hk4:=hxk.w.cm.k4;have hin:(r.id,partV v.k.C vq.q (m:Int))∈u.l:=hMR.mem.2 (by rw[hP];simp);have hex:∃p∈u.l,p.1=r.id:=⟨_,hin,rfl⟩
   have hall:∀p∈u.l,p.1=r.id→p.2=partV v.k.C vq.q (m:Int):=fun p hpl e=>by rw[hMR.same hpl hin e]
   have hqb:=hQ.blk;unfold qdO at hqb;rw[hkind];by_cases hmay:mayB x.c.kind r=true
   ·rw[if_pos hmay];simp only
    have hn1:=qn_an (c:=x.c) hm r.st r.val;have hn2:QS.n ⟨x.c,x.ps.set m (.an r.st r.val)⟩≤1000:=by
     have:QS.n ⟨x.c,x.ps.set m (.an r.st r.val)⟩≤(x.ps.set m (.an r.st r.val)).length:=List.countP_le_length;rw[List.length_set]at this;omega
    have hqb2:=hqb;rw[show(qdOf vq x).n=QS.n ⟨x.c,x.ps.set m (.an r.st r.val)⟩+1 from hn1]at hqb2;refine(hear_yes u.S v.k.C vq.q vq.yb vq.vb m x.ps.length u.hb _ su.held r u.l x.c.kind vq.kv x.c.val x.c.word x.c.fatal x.c.id (QS.n ⟨x.c,x.ps.set m (.an r.st r.val)⟩) x.fa x.re (yesC x.ps) (valC x.ps) W hsv.inb hf hsv.mp hex hall hqb2 hQ.yes hQ.val (by unfold yesC;simp) (by unfold valC;simp) hml (by omega) hn2 hmay).mono ?_;rintro e w' ⟨rfl,hb',j,p,a1,a2,a3,a4,a5,a6,a7,a8,a9⟩;have hbl:∀b,u.bv.ownBlock=some b→b<W.heap.size:=fun b hb=>hsv.old b (by simp[SrvV.foot,hb])
    obtain⟨n1,n2,n3,n4,n5⟩:=hsv.nS;have hvf:∀b∈vq.foot,b∉u.foot:=fun b hb hm'=>h.ap i v hv b (List.mem_append.2 (.inr (mem_feetQ.2 ⟨vq,List.mem_of_getElem? hvq,hb⟩))) (mem_feetS.2 ⟨o,u,hu,hm'⟩)
    have hbvk:∀b,u.bv.ownBlock=some b→w'.heap[b]?=W.heap[b]?:=fun b hb=>a9.block b (hbl b hb) (fun hm'=>by
     have hbu:b∈u.foot:=by simp[SrvV.foot,hb]
     simp at hm';rcases hm' with e|e|e|e|e|e
     ·exact n3 (by rw[hb,e])
     ·exact n5 (by rw[hb,e])
     ·exact hvf b (by rw[e];simp[QI.foot]) hbu
     ·exact hvf b (by rw[e];simp[QI.foot]) hbu
     ·exact hvf b (by rw[e];simp[QI.foot]) hbu
     ·exact hsv.ab b hb e)
    have hnew:SrvAt w' {u with hb:=hb',l:=u.l.eraseIdx j} {su with held:=su.held.drop r.used}:=by
     refine⟨a1,a5,hsv.bpv,hsv.row.other hbvk,hsv.nx,fun b hb hb2=>?_⟩;simp only at hb hb2;rcases a2 with e|e|⟨z,e,hz⟩
     ·exact hsv.ab b hb (by rw[←e];exact hb2)
     ·rw[e]at hb2;cases hb2
     ·rw[e]at hb2;cases hb2;have:=hbl _ hb;omega
    have hlu:Later W u.foot (SrvV.foot {u with hb:=hb',l:=u.l.eraseIdx j}):=fun b hb=>by
     unfold SrvV.foot at hb⊢;simp at hb⊢;rcases hb with e|e|e|e
     ·simp[e]
     ·simp[e]
     ·rcases a2 with e2|e2|⟨z,e2,hz⟩
      ·rw[e2]at e;simp[e]
      ·rw[e2]at e;cases e
      ·rw[e2]at e;cases e;exact .inr hz
     ·simp[e]
    have hkbk:∀b∈vq.kb.toList,w'.heap[b]?=W.heap[b]?:=fun b hb=>a9.block b (hQ.old b (by simp[QI.foot];right;right;right;exact optMem hb)) (fun hm'=>by
     have hbf:b∈vq.foot:=by simp[QI.foot];right;right;right;exact optMem hb
     have hnd:=hQ.nd;unfold QI.foot at hnd;have hbk:=optMem hb;rw[hbk]at hnd;simp at hnd;simp at hm';rcases hm' with e|e|e|e|e|e
     ·exact hvf b hbf (by rw[e];simp[SrvV.foot])
     ·exact hvf b hbf (by rw[e];simp[SrvV.foot])
     ·exact hnd.1.2.2 e.symm
     ·exact hnd.2.1.2 e.symm
     ·exact hnd.2.2 e.symm
     ·exact hvf b hbf (by simp[SrvV.foot,e]))
    have hqa:QuAt w' vq ⟨x.c,x.ps.set m (.an r.st r.val)⟩:=by
     refine hQ.toAn hm hkbk ?_ a7 a8;exact a6
    have hpsok:PSOk x.c.kind (.an r.st r.val):=by
     refine⟨by omega,hvs,?_⟩;unfold mayB at hmay;rw[Bool.or_eq_true,Bool.and_eq_true,decide_eq_true_eq,decide_eq_true_eq]at hmay;rcases hmay with⟨e1,e2⟩|e1
     ·exact .inr ⟨e1,e2⟩
     ·left;have:=emptyB' e1;rw[this];rfl
    have hqok:QSOk s.d ⟨x.c,x.ps.set m (.an r.st r.val)⟩:=⟨hxk.w,by show(x.ps.set m _).length=_;rw[List.length_set];exact hlen,fun y hy=>by
     rcases List.mem_or_eq_of_mem_set hy with h1|h1
     ·exact hxk.ps y h1
     ·rw[h1];exact hpsok⟩
    have hanJ:anJ cs i k m r=cs.set i {s with qs:=s.qs.set k ⟨x.c,x.ps.set m (.an r.st r.val)⟩}:=by
     unfold anJ anC;rw[hs];simp only
     rw[hx]
    rw[hanJ];have hfin:=h.heard (u':={u with hb:=hb',l:=u.l.eraseIdx j}) (su':={su with held:=su.held.drop r.used}) hu hsu hv hs hvq hx hqa hqok hnew rfl hlu a9 (fun b hb=>by
     simp at hb;rcases hb with e|e|e|e|e|e
     ·exact .inl (by rw[e];simp[SrvV.foot])
     ·exact .inl (by rw[e];simp[SrvV.foot])
     ·exact .inr (by rw[e];simp[QI.foot])
     ·exact .inr (by rw[e];simp[QI.foot])
     ·exact .inr (by rw[e];simp[QI.foot])
     ·exact .inl (by simp[SrvV.foot,e])) (fun o' z hz=>by
     rw[hPQ];rw[List.getElem?_set]at hz;split at hz
     ·rename_i e;subst e;split at hz
      ·cases hz;rw[hP]at hMR;exact hMR.take a3 a4
      ·cases hz
     ·rename_i e;have:=h.mr o' z hz;rw[hP]at this;exact this.skip e)
    exact⟨v,{u with hb:=hb',l:=u.l.eraseIdx j},hv,hu7,hul,rfl,rfl,hfin⟩
   ·rw[if_neg hmay];simp only
    have hmay':mayB x.c.kind r=false:=by simpa using hmay
    refine(hear_not u.S v.k.C vq.q m u.hb _ su.held r u.l x.c.kind _ _ _ _ _ _ _ _ _ _ W hsv.inb hf hsv.mp hex hall hqb hmay').mono ?_;rintro e w' ⟨h1,h2⟩;exact⟨h1,h2⟩
variable {o k q i:Nat}{l:List (Nat×Value)}{os:List (Nat×Nat×Value)}{x:QS}{v:CliV}{vq:QI}{s:CliQ}{cis:List CliV}{cs:List CliQ}
def failP (o:Nat):PS→PS
 |⟨.inl (some (a,id))⟩=>if a=o then .fl else .op a id
 |p=>p
def failQ (o:Nat)(x:QS):QS:=⟨x.c,x.ps.map (failP o)⟩
def failC (o:Nat)(s:CliQ):CliQ:={s with qs:=s.qs.map (failQ o)}
def ofO (o:Nat):PS→Bool
 |⟨.inl (some (a,_))⟩=>a==o
 |_=>false
def cntO (o:Nat)(ps:List PS):Nat:=ps.countP (ofO o)
theorem fail_n (o:Nat):∀ps:List PS,(ps.map (failP o)).countP PS.opn+cntO o ps=ps.countP PS.opn:=by
 intro ps;induction ps with
 |nil=>rfl
 |cons p ps ih=>
  unfold cntO at ih⊢;rw[List.map_cons,List.countP_cons,List.countP_cons,List.countP_cons];have key:(if PS.opn (failP o p)=true then 1 else 0)+(if ofO o p=true then 1 else 0)=(if PS.opn p=true then 1 else 0:Nat):=by
   cases p using PS.el with
   |op a id=>by_cases h:a=o<;>simp[failP,h,ofO,PS.opn]
   |_=>rfl
  omega
theorem fail_fa (o:Nat):∀ps:List PS,(ps.map (failP o)).any PS.bad=(ps.any PS.bad || decide (0<cntO o ps)):=by
 intro ps;induction ps with
 |nil=>rfl
 |cons p ps ih=>
  unfold cntO at ih⊢;rw[List.map_cons,List.any_cons,List.any_cons,ih,List.countP_cons];cases p using PS.el with
  |op a id=>
   by_cases h:a=o
   ·simp[failP,h,ofO,PS.bad]
   ·simp[failP,h,ofO,PS.bad]
  |un=>simp[failP,ofO,PS.bad]
  |an st v=>simp[failP,ofO,PS.bad]
  |fl=>simp[failP,ofO,PS.bad]
theorem fail_re (o:Nat)(ps:List PS):(ps.map (failP o)).any PS.ref=ps.any PS.ref:=by
 induction ps with
 |nil=>rfl
 |cons p ps ih=>
  rw[List.map_cons,List.any_cons,List.any_cons,ih];congr 1;cases p using PS.el with
  |op a id=>by_cases h:a=o<;>simp[failP,h,PS.ref]
  |_=>rfl
theorem fail_yes (o:Nat)(ps:List PS):(ps.map (failP o)).map PS.yes=ps.map PS.yes:=by
 rw[List.map_map];apply List.map_congr_left;intro p _;cases p using PS.el with
 |op a id=>by_cases h:a=o<;>simp[failP,h,PS.yes]
 |_=>rfl
theorem fail_val (o:Nat)(ps:List PS):(ps.map (failP o)).map PS.val=ps.map PS.val:=by
 rw[List.map_map];apply List.map_congr_left;intro p _;cases p using PS.el with
 |op a id=>by_cases h:a=o<;>simp[failP,h,PS.val]
 |_=>rfl
theorem fail_qd (o:Nat)(vq:QI)(x:QS):qdOf vq (failQ o x)=failN (qdOf vq x) (cntO o x.ps)∧yesC (failQ o x).ps=yesC x.ps∧valC (failQ o x).ps=valC x.ps:=by
 have h1:=fail_n o x.ps;have h2:=fail_fa o x.ps;have h3:=fail_re o x.ps;have h4:((failQ o x).ps.map (fun p=>Value.bool p.yes))=x.ps.map (fun p=>Value.bool p.yes):=by
  have:=congrArg (List.map Value.bool) (fail_yes o x.ps);simpa [List.map_map,Function.comp_def,failQ]using this
 have h5:((failQ o x).ps.map (fun p=>Value.string p.val))=x.ps.map (fun p=>Value.string p.val):=by
  have:=congrArg (List.map Value.string) (fail_val o x.ps);simpa [List.map_map,Function.comp_def,failQ]using this
 refine⟨?_,?_,?_⟩
 ·unfold qdOf failN QS.n QS.fa QS.re failQ;simp only[List.length_map,h2,h3]
  congr 1;omega
 ·unfold yesC;rw[h4]
 ·unfold valC;rw[h5]
theorem fail_opQ (o C q:Nat):∀(ps:List PS) (i:Nat),opQ C q i (ps.map (failP o))=(opQ C q i ps).filter (fun p=>p.1 != o):=by
 intro ps;induction ps with
 |nil=>intro i;rfl
 |cons p ps ih=>
  intro i;rw[List.map_cons];cases p using PS.el with
  |op a id=>
   by_cases h:a=o
   ·simp[failP,h,opQ,ih]
   ·simp[failP,h,opQ,ih]
  |un=>simpa [failP,opQ]using ih (i+1)
  |an st v=>simpa [failP,opQ]using ih (i+1)
  |fl=>simpa [failP,opQ]using ih (i+1)
theorem fail_opnV (o C:Nat):∀(qi:List QI) (xs:List QS),opnV C qi (xs.map (failQ o))=(opnV C qi xs).filter (fun p=>p.1 != o):=by
 intro qi;induction qi with
 |nil=>intro xs;unfold opnV;simp
 |cons v qi ih=>
  intro xs;cases xs with
  |nil=>unfold opnV;simp
  |cons x xs=>
   rw[List.map_cons,opnV_cons,opnV_cons,List.filter_append,ih xs];congr 1;exact fail_opQ o C v.q x.ps 0
theorem fail_opnJ (o:Nat):∀(cis:List CliV) (cs:List CliQ),opnJ cis (cs.map (failC o))=(opnJ cis cs).filter (fun p=>p.1 != o):=by
 intro cis;induction cis with
 |nil=>intro cs;unfold opnJ;simp
 |cons v cis ih=>
  intro cs;cases cs with
  |nil=>unfold opnJ;simp
  |cons s cs=>
   rw[List.map_cons,opnJ_cons,opnJ_cons,List.filter_append,ih cs];congr 1;exact fail_opnV o v.k.C v.qi s.qs
theorem MapR.fell {o':Nat}(h:MapR o l os)(hn:o'≠o):MapR o l (os.filter (fun p=>p.1 != o')):=by
 refine⟨?_,h.nd⟩;rw[List.filter_filter];have e:os.filter (fun p=>(p.1==o)&&(p.1 != o'))=os.filter (fun p=>p.1==o):=by
  apply List.filter_congr;intro p _;by_cases hp:p.1=o
  ·simp[hp];exact fun e=>hn e.symm
  ·simp[hp]
 rw[e];exact h.pm
theorem MapR.none (o:Nat)(os:List (Nat×Nat×Value)):MapR o [] (os.filter (fun p=>p.1 != o)):=by
 refine⟨?_,by simp⟩;rw[List.filter_filter];have e:os.filter (fun p=>(p.1==o)&&(p.1 != o))=[]:=by
  apply List.filter_eq_nil_iff.2;intro p _;by_cases hp:p.1=o<;>simp[hp]
 rw[e];simp
theorem PSOk.fail {k:Int}{p:PS}(h:PSOk k p)(o:Nat):PSOk k (failP o p):=by
 cases p using PS.el with
 |op a id=>
  by_cases e:a=o
  ·simp[failP,e,PSOk]
  ·simp[failP,e,PSOk]
 |_=>exact h
theorem QSOk.fail {d:Int}(h:QSOk d x)(o:Nat):QSOk d (failQ o x):=
 ⟨h.w,by show(x.ps.map _).length=_;rw[List.length_map];exact h.len,fun p hp=>by
  obtain⟨q,hq,rfl⟩:=List.mem_map.1 hp;exact(h.ps q hq).fail o⟩
def cntQ (o q:Nat)(l:List (Nat×Nat×Value)):Nat:=l.countP (fun p=>p.1==o&&qOf p.2.2==q)
theorem cntQ_none {l:List (Nat×Nat×Value)}(h:∀p∈l,qOf p.2.2≠q):cntQ o q l=0:=by
 unfold cntQ;rw[List.countP_eq_zero];intro p hp;simp;intro _;exact h p hp
theorem cntQ_app (o q:Nat)(a b:List (Nat×Nat×Value)):cntQ o q (a++b)=cntQ o q a+cntQ o q b:=List.countP_append
theorem cntQ_opQ (o C q:Nat):∀(ps:List PS) (i:Nat),cntQ o q (opQ C q i ps)=cntO o ps:=by
 intro ps;induction ps with
 |nil=>intro i;rfl
 |cons p ps ih=>
  intro i;unfold cntO;rw[List.countP_cons];cases p using PS.el with
  |op a id=>
   have h:=ih (i+1);unfold cntQ cntO at h;show cntQ o q ((a,id,partV C q i)::opQ C q (i+1) ps)=_;unfold cntQ;rw[List.countP_cons,h];simp[qOf_part,ofO]
  |un=>simpa [opQ,ofO,cntO]using ih (i+1)
  |an st v=>simpa [opQ,ofO,cntO]using ih (i+1)
  |fl=>simpa [opQ,ofO,cntO]using ih (i+1)
theorem MapR.cnt (h:MapR o l os)(q:Nat):l.countP (fun p=>qOf p.2==q)=cntQ o q os:=by
 rw[h.pm.countP_eq,List.countP_map,List.countP_filter];unfold cntQ;congr 1;funext p;simp[Bool.and_comm]
section
variable {W:World}{X sv pt win g sc:Nat}{cv:Value}{cis:List CliV}{cs:List CliQ}{vs:List SrvV}{ss:List SrvQ}
theorem JunQ.one (h:JunQ W X sv pt win g sc cv cis cs vs ss){i' k':Nat}{v':CliV}{vq':QI}(hv:cis[i]?=some v)(hq:v.qi[k]?=some vq)(hv':cis[i']?=some v')(hq':v'.qi[k']?=some vq')(e:vq.q=vq'.q):i=i'∧k=k':=by
 have m1:vq.q∈v.foot:=List.mem_append.2 (.inr (mem_feetQ.2 ⟨vq,List.mem_of_getElem? hq,by simp[QI.foot]⟩));have m2:vq.q∈v'.foot:=List.mem_append.2 (.inr (mem_feetQ.2 ⟨vq',List.mem_of_getElem? hq',by simp[QI.foot,e]⟩));have hi:i=i':=Classical.byContradiction fun hn=>h.cap i i' v v' hn hv hv' _ m1 m2
 subst hi;rw[hv]at hv';cases hv';refine⟨rfl,Classical.byContradiction fun hn=>?_⟩;obtain⟨s,hs,hc⟩:=h.get hv;exact hc.qu.ap k k' vq vq' hn hq hq' vq.q (by simp[QI.foot]) (by simp[QI.foot,e])
theorem JunQ.count (h:JunQ W X sv pt win g sc cv cis cs vs ss)(hv:cis[i]?=some v)(hs:cs[i]?=some s)(hq:v.qi[k]?=some vq)(hx:s.qs[k]?=some x)(o:Nat):cntQ o vq.q (opnJ cis cs)=cntO o x.ps:=by
 have hp:=opnJ_at h.cl hv hs;have e1:cntQ o vq.q (opnJ cis cs)=cntQ o vq.q (exJ cis cs i++opnV v.k.C v.qi s.qs):=hp.countP_eq _;rw[e1,cntQ_app];have hl:=(h.cli i v s hv hs).qu.len;have z1:cntQ o vq.q (exJ cis cs i)=0:=by
  refine cntQ_none fun p hpm e=>?_
  unfold exJ at hpm;rcases List.mem_append.1 hpm with hm|hm
  ·obtain⟨i',k',m,v',s',vq',x',a1,a2,a3,a4,a5,a6⟩:=opnJ_part hm;rw[List.getElem?_take]at a1;split at a1
   ·rw[a5,qOf_part]at e;have:=(h.one a1 a3 hv hq e).1;omega
   ·cases a1
  ·obtain⟨i',k',m,v',s',vq',x',a1,a2,a3,a4,a5,a6⟩:=opnJ_part hm;rw[List.getElem?_drop]at a1;rw[a5,qOf_part]at e;have:=(h.one a1 a3 hv hq e).1;omega
 rw[z1,Nat.zero_add];have e3:=split_at hq;have e4:=split_at hx;have hll:(v.qi.take k).length=(s.qs.take k).length:=by rw[List.length_take,List.length_take,hl]
 have e5:opnV v.k.C v.qi s.qs=opnV v.k.C (v.qi.take k) (s.qs.take k)++(opQ v.k.C vq.q 0 x.ps++opnV v.k.C (v.qi.drop (k+1)) (s.qs.drop (k+1))):=by
  conv=>lhs;rw[e3,e4]
  unfold opnV;rw[List.zip_append hll,List.flatMap_append];simp
 have part:∀(A:List QI) (B:List QS) (p:Nat×Nat×Value),p∈opnV v.k.C A B→∃(k':Nat) (vq':QI),A[k']?=some vq'∧qOf p.2.2=vq'.q:=fun A B p hp=>by
  unfold opnV at hp;obtain⟨y,hy,h3⟩:=List.mem_flatMap.1 hp;obtain⟨k',hk⟩:=List.mem_iff_getElem?.1 hy;rw[List.getElem?_zip_eq_some]at hk;obtain⟨m,_,h4,h5⟩:=opQ_part _ _ _ _ _ h3;exact⟨k',y.1,hk.1,by rw[h4,qOf_part]⟩
 rw[e5,cntQ_app,cntQ_app,cntQ_opQ];have z2:cntQ o vq.q (opnV v.k.C (v.qi.take k) (s.qs.take k))=0:=by
  refine cntQ_none fun p hpm e=>?_
  obtain⟨k',vq',a1,a2⟩:=part _ _ _ hpm;rw[List.getElem?_take]at a1;split at a1
  ·rw[a2]at e;have:=(h.one hv a1 hv hq e).2;omega
  ·cases a1
 have z3:cntQ o vq.q (opnV v.k.C (v.qi.drop (k+1)) (s.qs.drop (k+1)))=0:=by
  refine cntQ_none fun p hpm e=>?_
  obtain⟨k',vq',a1,a2⟩:=part _ _ _ hpm;rw[List.getElem?_drop]at a1;rw[a2]at e;have:=(h.one hv a1 hv hq e).2;omega
 omega
def qdL (cis:List CliV)(cs:List CliQ):List (Nat×QD):=(cis.zip cs).flatMap (fun p=>(p.1.qi.zip p.2.qs).map (fun q=>(q.1.q,qdOf q.1 q.2)))
theorem mem_qdL {z:Nat×QD}:z∈qdL cis cs↔∃(i k:Nat) (v:CliV) (s:CliQ) (vq:QI) (x:QS),cis[i]?=some v∧cs[i]?=some s∧v.qi[k]?=some vq∧s.qs[k]?=some x∧z=(vq.q,qdOf vq x):=by
 unfold qdL;rw[List.mem_flatMap];constructor
 ·rintro ⟨y,hy,hz⟩;obtain⟨i,hi⟩:=List.mem_iff_getElem?.1 hy;rw[List.getElem?_zip_eq_some]at hi;obtain⟨q,hq,rfl⟩:=List.mem_map.1 hz;obtain⟨k,hk⟩:=List.mem_iff_getElem?.1 hq;rw[List.getElem?_zip_eq_some]at hk;exact⟨i,k,y.1,y.2,q.1,q.2,hi.1,hi.2,hk.1,hk.2,rfl⟩
 ·rintro ⟨i,k,v,s,vq,x,h1,h2,h3,h4,rfl⟩;refine⟨(v,s),List.mem_iff_getElem?.2 ⟨i,List.getElem?_zip_eq_some.2 ⟨h1,h2⟩⟩,List.mem_map.2 ⟨(vq,x),List.mem_iff_getElem?.2 ⟨k,List.getElem?_zip_eq_some.2 ⟨h3,h4⟩⟩,rfl⟩⟩
def qdF (cis:List CliV)(cs:List CliQ)(q:Nat):Option QD:=((qdL cis cs).find? (fun p=>p.1==q)).map (·.2)
theorem qdF_some {d:QD}(h:qdF cis cs q=some d):∃(i k:Nat) (v:CliV) (s:CliQ) (vq:QI) (x:QS),cis[i]?=some v∧cs[i]?=some s∧v.qi[k]?=some vq∧s.qs[k]?=some x∧q=vq.q∧d=qdOf vq x:=by
 unfold qdF at h;obtain⟨z,hz,e⟩:=Option.map_eq_some_iff.1 h;have h1:=List.find?_some hz;have h2:=List.mem_of_find?_eq_some hz;obtain⟨i,k,v,s,vq,x,a1,a2,a3,a4,a5⟩:=mem_qdL.1 h2;refine⟨i,k,v,s,vq,x,a1,a2,a3,a4,?_,?_⟩
 ·have:z.1=q:=by simpa using h1
  rw[←this,a5]
 ·rw[←e,a5]
theorem JunQ.qdAt (h:JunQ W X sv pt win g sc cv cis cs vs ss)(hv:cis[i]?=some v)(hs:cs[i]?=some s)(hq:v.qi[k]?=some vq)(hx:s.qs[k]?=some x):qdF cis cs vq.q=some (qdOf vq x):=by
 cases hf:qdF cis cs vq.q with
 |none=>
  exfalso;unfold qdF at hf;rw[Option.map_eq_none_iff,List.find?_eq_none]at hf;have:=hf (vq.q,qdOf vq x) (mem_qdL.2 ⟨i,k,v,s,vq,x,hv,hs,hq,hx,rfl⟩);simp at this
 |some d=>
  obtain⟨i',k',v',s',vq',x',a1,a2,a3,a4,a5,a6⟩:=qdF_some hf;obtain⟨rfl,rfl⟩:=h.one hv hq a1 a3 a5;rw[hv]at a1;cases a1;rw[hs]at a2;cases a2;rw[hq]at a3;cases a3;rw[hx]at a4;cases a4;rw[a6]
end
set_option maxHeartbeats 2000000
set_option maxRecDepth 100000
variable {X sv pt win g sc o T:Nat}{cv:Value}{cis:List CliV}{cs:List CliQ}{vs:List SrvV}{ss:List SrvQ}{u:SrvV}{su:SrvQ}
def fellS (o:Nat)(ss:List SrvQ):List SrvQ:=match ss[o]?with
 |none=>ss
 |some s=>ss.set o {s with up:=false,held:=[]}
theorem sfall_jun {W:World}(h:JunQ W X sv pt win g sc cv cis cs vs ss)(hu:vs[o]?=some u)(hsu:ss[o]?=some su):Calls Tryz.prog 95 #[.pointer (some ⟨u.S,0,none⟩)] W fun e w'=>e= .returned (.tuple #[])∧JunQ w' X sv pt win g sc cv cis (cs.map (failC o)) (vs.set o {u with hb:=none,l:=[]}) (fellS o ss)∧Chg (footQ X cv cis vs) W w'∧Later W (footQ X cv cis vs) (footQ X cv cis (vs.set o {u with hb:=none,l:=[]})):=by
 have hsv:=h.srv.ok o u su hu hsu;have hMR:=h.mr o u hu;have hol:=(List.getElem?_eq_some_iff.1 hu).1;have hqs:∀q d,qdF cis cs q=some d→W.heap[q]?=some (qdO d):=fun q d hd=>by
  obtain⟨i,k,v,s,vq,x,a1,a2,a3,a4,rfl,rfl⟩:=qdF_some hd;exact((h.cli i v s a1 a2).qu.qu k vq x a3 a4).blk
 have hall:∀p∈u.l,∃C q i d,p.2=partV C q i∧qdF cis cs q=some d:=fun p hp=>by
  obtain⟨i,k,m,v,s,vq,x,a1,a2,a3,a4,a5,_⟩:=opnJ_part (hMR.mem.1 hp);exact⟨_,_,_,_,a5,h.qdAt a1 a2 a3 a4⟩
 have hcnt:∀q d,qdF cis cs q=some d→u.l.countP (fun p=>qOf p.2==q)≤d.n∧d.n≤1000:=fun q d hd=>by
  obtain⟨i,k,v,s,vq,x,a1,a2,a3,a4,rfl,rfl⟩:=qdF_some hd;rw[hMR.cnt,h.count a1 a2 a3 a4 o];have hx:=(h.cli i v s a1 a2).ok x (List.mem_of_getElem? a4);have h1:=fail_n o x.ps;have h2:x.ps.countP PS.opn≤x.ps.length:=List.countP_le_length;have h3:=hx.len;have h4:=hx.w.cm.k4;show cntO o x.ps≤x.ps.countP PS.opn∧x.ps.countP PS.opn≤1000;omega
 refine(sfall_any u.S u.hb _ su.held u.l (qdF cis cs) W hsv.inb hsv.mp hqs hall hcnt).mono ?_;rintro e w' ⟨rfl,a1,a2,a3,a4,a5,a6,a7,a8⟩;have huf:∀b∈u.foot,b∈feetS vs:=fun b hb=>mem_feetS.2 ⟨o,u,hu,hb⟩
 have hS:u.S∈u.foot:=by simp[SrvV.foot]
 have hm:u.m∈u.foot:=by simp[SrvV.foot]
 have kt:∀b:Nat,b<W.heap.size→b≠u.S→b≠u.m→(∀(Z:Array Value) f,W.heap[b]?≠some (.cells Z 216 f))→w'.heap[b]?=W.heap[b]?:=fun b hb n1 n2 n3=>a8 b hb n1 n2 (by
  cases hd:qdF cis cs b with
  |none=>rfl
  |some d=>exact absurd (hqs b d hd) (n3 _ _))
 have chg:Chg (footQ X cv cis vs) W w':=⟨a4,a5,a6,a7,fun b hb hn=>by
  refine a8 b hb (fun e=>hn ?_) (fun e=>hn ?_) ?_
  ·rw[e];unfold footQ;exact List.mem_cons_of_mem _ (List.mem_append.2 (.inr (List.mem_append.2 (.inr (huf _ hS)))))
  ·rw[e];unfold footQ;exact List.mem_cons_of_mem _ (List.mem_append.2 (.inr (List.mem_append.2 (.inr (huf _ hm)))))
  ·cases hd:qdF cis cs b with
   |none=>rfl
   |some d=>
    exfalso;obtain⟨i,k,v,s,vq,x,b1,b2,b3,b4,rfl,rfl⟩:=qdF_some hd;refine hn ?_;unfold footQ;exact List.mem_cons_of_mem _ (List.mem_append.2 (.inr (List.mem_append.2 (.inl (mem_civ.2 ⟨i,v,b1,List.mem_append.2 (.inr (mem_feetQ.2 ⟨vq,List.mem_of_getElem? b3,by simp[QI.foot]⟩))⟩)))))⟩
 have ty:∀{b T:Nat} {Z:Array Value} {f:Nat×Nat},W.heap[b]?=some (.cells Z T f)→T≠216→∀(Z':Array Value) f',W.heap[b]?≠some (.cells Z' 216 f'):=fun hb hT Z' f' e=>by
  rw[hb]at e;simp at e;exact hT e.2.1
 have sne:∀b∈feetS vs,b∉u.foot→b≠u.S∧b≠u.m:=fun b _ hn=>⟨fun e=>hn (by rw[e];exact hS),fun e=>hn (by rw[e];exact hm)⟩
 have sty:∀b∈feetS vs,∀(Z:Array Value) f,W.heap[b]?≠some (.cells Z 216 f):=fun b hb Z f e=>h.srv.apart e (by decide) (by decide) hb
 obtain⟨n1,n2,n3,n4,n5⟩:=hsv.nS;have hnew:SrvAt w' {u with hb:=none,l:=[]} {su with up:=false,held:=[]}:=by
  refine⟨?_,a2,hsv.bpv,hsv.row.other (fun b hb=>?_),hsv.nx,fun b hb=>by simp⟩
  ·exact a1
  ·have hbf:b∈u.foot:=by simp[SrvV.foot,hb]
   exact kt b (hsv.old b hbf) (fun e=>n3 (by rw[hb,e])) (fun e=>n5 (by rw[hb,e])) (sty b (huf b hbf))
 have hlu:Later W u.foot (SrvV.foot {u with hb:=none,l:=[]}):=fun b hb=>by
  unfold SrvV.foot at hb⊢;simp at hb⊢;rcases hb with e|e|e<;>simp[e]
 obtain⟨r1,r2⟩:=h.srv.put hu (fun b hb hn=>kt b (h.srv.old b hb) (sne b hb hn).1 (sne b hb hn).2 (sty b hb)) hnew hlu;have hfs:fellS o ss=ss.set o {su with up:=false,held:=[]}:=by unfold fellS;rw[hsu]
 obtain⟨nx1,nx2,nx3⟩:=h.nX;obtain⟨Zg,g1,g2⟩:=h.gb;have hX:=h.blk;unfold juO at hX;refine⟨rfl,⟨(kt X (blkLt h.blk) (fun e=>nx2 (by rw[e];exact huf _ hS)) (fun e=>nx2 (by rw[e];exact huf _ hm)) (ty hX (by decide))).trans h.blk,⟨Zg,(kt g (blkLt g1) (fun e=>nx3 (by rw[e];exact huf _ hS)) (fun e=>nx3 (by rw[e];exact huf _ hm)) (ty g1 (by decide))).trans g1,fun j z hz=>?_⟩,by rw[List.length_set];exact h.len,h.s1,h.s4,h.sc_,h.pt_,h.w6,?_,by rw[List.length_map];exact h.cl,h.c4,fun i v s' hv hs'=>?_,h.cap,?_,fun j z hz b hb hm'=>?_,fun o' z hz=>?_,fun s' hs'=>?_⟩,chg,fun b hb=>?_⟩
 ·rw[List.getElem?_set]at hz;split at hz
  ·rename_i e;subst e;simp at hz;subst hz;exact g2 o u hu
  ·exact g2 j z hz
 ·exact ownsRow_other h.row (fun gg hg=>by
   obtain⟨b1,b2,b3⟩:=h.nRow hg;obtain⟨cur,hc⟩:=ownsRow_blk h.row hg;exact kt gg b1 (fun e=>b3 (by rw[e];exact huf _ hS)) (fun e=>b3 (by rw[e];exact huf _ hm)) (ty hc (by decide)))
 ·rw[List.getElem?_map]at hs';obtain⟨s,hs,rfl⟩:=Option.map_eq_some_iff.1 hs';have hc:=h.cli i v s hv hs;have ne:∀b∈v.foot,b≠u.S∧b≠u.m:=fun b hb=>⟨fun e=>h.ap i v hv b hb (by rw[e];exact huf _ hS),fun e=>h.ap i v hv b hb (by rw[e];exact huf _ hm)⟩
  have hmap:(s.qs.map (failQ o)).map (·.c)=s.qs.map (·.c):=by rw[List.map_map];rfl
  refine⟨?_,hc.qk,⟨by rw[hc.qu.len];show _=(s.qs.map _).length;rw[List.length_map],fun k vq x' hvq hx'=>?_,hc.qu.nd⟩,fun x' hx'=>?_⟩
  ·have:=hc.cor.keep (fun b hb=>by
    have hbf:b∈v.foot:=List.mem_append.2 (.inl hb);refine kt b (hc.old b hbf) (ne b hbf).1 (ne b hbf).2 (fun Z f e=>?_);exact hc.cor.apart e (by decide) hb)
   show CorAt w' win v.k ⟨s.d,s.st,(s.qs.map (failQ o)).map (·.c),s.told⟩;rw[hmap];exact this
  ·have hx'':(s.qs.map (failQ o))[k]?=some x':=hx';rw[List.getElem?_map]at hx'';obtain⟨x,hx,rfl⟩:=Option.map_eq_some_iff.1 hx'';have hQ:=hc.qu.qu k vq x hvq hx;obtain⟨f1,f2,f3⟩:=fail_qd o vq x;have hmem:∀b∈vq.foot,b∈v.foot:=fun b hb=>List.mem_append.2 (.inr (mem_feetQ.2 ⟨vq,List.mem_of_getElem? hvq,hb⟩))
   have hb1:=a3 vq.q _ (h.qdAt hv hs hvq hx);rw[hMR.cnt,h.count hv hs hvq hx o]at hb1;have my:=hmem vq.yb (by simp[QI.foot]);have mv:=hmem vq.vb (by simp[QI.foot]);refine⟨by rw[f1];exact hb1,?_,?_,?_⟩
   ·show _=some (Obj.cells (yesC (failQ o x).ps) 4 (0,0));rw[f2];exact(kt vq.yb (hc.old _ my) (ne _ my).1 (ne _ my).2 (ty hQ.yes (by decide))).trans hQ.yes
   ·show _=some (Obj.cells (valC (failQ o x).ps) 9 (0,0));rw[f3];exact(kt vq.vb (hc.old _ mv) (ne _ mv).1 (ne _ mv).2 (ty hQ.val (by decide))).trans hQ.val
   ·rcases hQ.keys with e|⟨b',c',Z,e1,e2,e3,e4,hZ,e5⟩
    ·exact .inl e
    ·have mk:=hmem b' (by simp[QI.foot,e1]);exact .inr ⟨b',c',Z,e1,e2,e3,e4,(kt b' (hc.old _ mk) (ne _ mk).1 (ne _ mk).2 (ty hZ (by decide))).trans hZ,e5⟩
  ·have hx'':x'∈s.qs.map (failQ o):=hx';obtain⟨x,hx,rfl⟩:=List.mem_map.1 hx'';exact(hc.ok x hx).fail o
 ·rw[hfs];exact r1
 ·rcases r2 b hm' with h3|h3
  ·exact h.ap j z hz b hb h3
  ·have:=civ_old h hz b hb;omega
 ·rw[fail_opnJ];rw[List.getElem?_set]at hz;split at hz
  ·rename_i e;subst e;cases hz;exact MapR.none o _
  ·rename_i e;exact(h.mr o' z hz).fell e
 ·obtain⟨s,hs,rfl⟩:=List.mem_map.1 hs';show(s.qs.map _).length≤win;rw[List.length_map];exact h.wl s hs
 ·unfold footQ at hb⊢;rcases List.mem_cons.1 hb with e|hb
  ·exact .inl (by rw[e];simp)
  rcases List.mem_append.1 hb with hb|hb
  ·exact .inl (List.mem_cons_of_mem _ (List.mem_append.2 (.inl hb)))
  rcases List.mem_append.1 hb with hb|hb
  ·exact .inl (List.mem_cons_of_mem _ (List.mem_append.2 (.inr (List.mem_append.2 (.inl hb)))))
  ·rcases r2 b hb with h3|h3
   ·exact .inl (List.mem_cons_of_mem _ (List.mem_append.2 (.inr (List.mem_append.2 (.inr h3)))))
   ·exact .inr h3
def runsJ (sv pt win n:Nat)(st:List CliQ×List SrvQ):List CliQ×List SrvQ:=(List.range n).foldl (fun st i=>runJ sv pt win i st) st
theorem runsJ_succ (sv pt win n:Nat)(st:List CliQ×List SrvQ):runsJ sv pt win (n+1) st=runJ sv pt win n (runsJ sv pt win n st):=by
 unfold runsJ;rw[List.range_succ,List.foldl_append];rfl
def fallJ (sv pt win o:Nat)(st:List CliQ×List SrvQ):List CliQ×List SrvQ:=runsJ sv pt win st.1.length (st.1.map (failC o),fellS o st.2)
theorem heldSum_map (o:Nat)(cs:List CliQ):heldSum (cs.map (failC o))=heldSum cs:=by
 unfold heldSum;rw[List.map_map];rfl
theorem BdJ.fell (h:BdJ win T cs ss)(o:Nat):BdJ win T (cs.map (failC o)) (fellS o ss):=by
 refine⟨fun s' hs'=>?_,fun s' hs'=>?_,fun u hu=>?_⟩
 ·obtain⟨s,hs,rfl⟩:=List.mem_map.1 hs';have:=h.told s hs;show s.told.length+1000*((s.qs.map _).length+s.st.held.length)≤T;rw[List.length_map];exact this
 ·obtain⟨s,hs,rfl⟩:=List.mem_map.1 hs';show(s.qs.map _).length≤win;rw[List.length_map];exact h.wl s hs
 ·rw[heldSum_map];unfold fellS at hu;split at hu
  ·exact h.srv u hu
  ·rename_i s hs;rcases List.mem_or_eq_of_mem_set hu with h1|h1
   ·exact h.srv u h1
   ·rw[h1];exact h.srv s (List.mem_of_getElem? hs)
theorem fall_jun {w:World}(h:JunQ w X sv pt win g sc cv cis cs vs ss)(hu:vs[o]?=some u)(hsu:ss[o]?=some su)(hT:T+5000≤100000000000)(hb:BdJ win T cs ss):Calls Tryz.prog 64 #[.pointer (some ⟨X,0,none⟩),.pointer (some ⟨u.S,0,none⟩)] w fun e w'=>e= .returned (.tuple #[])∧∃cis' vs',JunQ w' X sv pt win g sc cv cis' (fallJ sv pt win o (cs,ss)).1 vs' (fallJ sv pt win o (cs,ss)).2∧cis'.length=cis.length∧BdJ win T (fallJ sv pt win o (cs,ss)).1 (fallJ sv pt win o (cs,ss)).2∧Chg (footQ X cv cis vs) w w'∧Later w (footQ X cv cis vs) (footQ X cv cis' vs'):=by
 have HF:=hide' (sfall_jun h hu hsu);have HB:=hide' (hb.fell o);have hlen:cs.length=cis.length:=h.cl.symm;have hc4:=h.c4;obtain⟨ca,cc,hcv⟩:=h.cvLen;obtain⟨vs1,hvs1⟩:∃vs1,vs.set o {u with hb:=none,l:=[]}=vs1:=⟨_,rfl⟩
 rw[hvs1]at HF;obtain⟨M,hM⟩:∃M,footQ X cv cis vs=M:=⟨_,rfl⟩
 rw[hM]at HF;simp only[hM]
 obtain⟨n,hn⟩:∃n,cis.length=n:=⟨_,rfl⟩
 have HN:=hide' (And.intro hn hlen);rw[hn]at hc4 hcv;subst hcv;have HR:Hid (∀(wr:World) (cis1:List CliV) (cs1:List CliQ) (vs1:List SrvV) (ss1:List SrvQ) (i:Nat) (v:CliV),JunQ wr X sv pt win g sc (.slice ca n cc) cis1 cs1 vs1 ss1→cis1[i]?=some v→BdJ win T cs1 ss1→Calls Tryz.prog 59 #[.pointer (some ⟨X,0,none⟩),.pointer (some ⟨v.k.C,0,none⟩)] wr fun e w'=>e= .returned (.tuple #[])∧∃v' vs',v'.k.C=v.k.C∧JunQ w' X sv pt win g sc (.slice ca n cc) (cis1.set i v') (runJ sv pt win i (cs1,ss1)).1 vs' (runJ sv pt win i (cs1,ss1)).2∧BdJ win T (runJ sv pt win i (cs1,ss1)).1 (runJ sv pt win i (cs1,ss1)).2∧Chg (footQ X (.slice ca n cc) cis1 vs1) wr w'∧Later wr (footQ X (.slice ca n cc) cis1 vs1) (footQ X (.slice ca n cc) (cis1.set i v') vs')):=fun wr cis1 cs1 vs1 ss1 i v h1 hv hb1=>readOn_jun h1 hv hT hb1
 clear h hu hsu hb hlen hM hvs1 hn;go_enter Tryz.func64,Tryz.ntmps64;go_wp2_with fail
 go_at_call 95;refine HF.out.mono ?_;rintro e w1 ⟨rfl,h1,k1,l1⟩;have c3:=(juCells h1.blk).2.2.2.1;have hlt:=blkLt h1.blk;have H1:=hide' (And.intro h1 (And.intro k1 l1));clear h1 k1 l1 HF;go_wp2_with fail
 go_loopw [13] (fun i wr=>∃(j:Nat) (cis1:List CliV) (vs2:List SrvV),j≤n∧i= .int .i64 (j:Int)∧Hid (JunQ wr X sv pt win g sc (.slice ca n cc) cis1 (runsJ sv pt win j (cs.map (failC o),fellS o ss)).1 vs2 (runsJ sv pt win j (cs.map (failC o),fellS o ss)).2∧cis1.length=n∧BdJ win T (runsJ sv pt win j (cs.map (failC o),fellS o ss)).1 (runsJ sv pt win j (cs.map (failC o),fellS o ss)).2∧Chg M w wr∧Later w M (footQ X (.slice ca n cc) cis1 vs2))) (fun i _=>n-(intOf i).toNat)
 case atStart=>exact⟨0,cis,vs1,Nat.zero_le _,rfl,H1.out.1,HN.out.1,HB.out,H1.out.2.1,H1.out.2.2⟩
 case round=>
  obtain⟨j,cis1,vs2,hj,rfl,HJ⟩:=hrel;by_cases hlt2:j<n
  ·have hlt':(j:Int)<(n:Int):=by omega
   obtain⟨v,hv⟩:∃v,cis1[j]?=some v:=⟨_,List.getElem?_eq_getElem (by rw[HJ.out.2.1];exact hlt2)⟩
   obtain⟨gg,c',e1,hgl,hgc⟩:=HJ.out.1.cvAt hv;rw[HJ.out.2.1]at e1;cases e1;have HRd:=hide' (HR.out wr cis1 _ vs2 _ j v HJ.out.1 hv HJ.out.2.2.1);have HV:=hide' hv;have hcc:n≤cc∨True:= .inr trivial;obtain⟨C,hC⟩:∃C,v.k.C=C:=⟨_,rfl⟩
   rw[hC]at hgc HRd;clear hv hC hcc;go_wp2_with fail
   go_at_call 59;refine HRd.out.mono ?_;rintro e w3 ⟨rfl,v',vs3,b1,b2,b3,b4,b5⟩;have H3:=hide' (And.intro b2 (And.intro b3 (And.intro b4 b5)));clear b1 b2 b3 b4 b5 HRd;go_wp2;go_roundw;case rel=>
    obtain⟨b2,b3,b4,b5⟩:=H3.out;obtain⟨_,hl,_,hk,hlt⟩:=HJ.out;refine⟨j+1,cis1.set j v',vs3,by omega,by go_num,?_⟩;rw[runsJ_succ];exact⟨b2,by rw[List.length_set];exact hl,b3,hk.trans b4 hlt,hlt.trans b5 hk.size⟩
   case measure=>simp[intOf];omega
  ·have hjn:j=n:=by omega
   subst hjn;go_wp2;go_end0;obtain⟨a1,a2,a3,a4,a5⟩:=HJ.out;have e:fallJ sv pt win o (cs,ss)=runsJ sv pt win j (cs.map (failC o),fellS o ss):=by
    unfold fallJ;simp only
    rw[HN.out.2,HN.out.1]
   rw[e,HN.out.1];exact⟨rfl,cis1,vs2,a1,a2,a3,a4,a5⟩
set_option maxHeartbeats 1000000
set_option maxRecDepth 100000
variable {a b ss:List SrvQ}{s:SrvQ}{o i k m sv pt win:Nat}{cs:List CliQ}{r:Reply}{st:List CliQ×List SrvQ}
def SameIn (ss ss':List SrvQ):Prop:=ss'.length=ss.length∧∀(j:Nat) (s':SrvQ),ss'[j]?=some s'→∃s,ss[j]?=some s∧s'.held=s.held∧s'.up=s.up
theorem SameIn.refl (ss:List SrvQ):SameIn ss ss:=⟨rfl,fun j s' h=>⟨s',h,rfl,rfl⟩⟩
theorem SameIn.trans {c:List SrvQ}(h:SameIn a b)(k:SameIn b c):SameIn a c:=⟨k.1.trans h.1,fun j s' hs=>by
 obtain⟨s1,h1,e1,e2⟩:=k.2 j s' hs
 obtain⟨s2,h2,e3,e4⟩:=h.2 j s1 h1
 exact⟨s2,h2,e1.trans e3,e2.trans e4⟩⟩
theorem SameIn.at_ (h:SameIn a b){j:Nat}(hs:a[j]?=some s):∃s',b[j]?=some s'∧s'.held=s.held∧s'.up=s.up:=by
 have hj:j<b.length:=by rw[h.1];exact(List.getElem?_eq_some_iff.1 hs).1
 obtain⟨s2,h2,e1,e2⟩:=h.2 j _ (List.getElem?_eq_getElem hj);rw[hs]at h2;cases h2;exact⟨_,List.getElem?_eq_getElem hj,e1,e2⟩
theorem sendsK_in (sv pt:Nat)(k:Int)(val:ByteArray)(ex:List (Nat×Nat))(ss:List SrvQ)(ks:List ByteArray):SameIn ss (sendsK sv pt k val ex ss ks).1:=
 sendsK_ind sv pt k val ex ss (fun ks st=>SameIn ss st.1) (SameIn.refl _) (fun ks key st hP=>by
  unfold sendK;split
  ·exact hP
  ·rename_i s hs;split
   ·refine hP.trans ⟨by simp,fun j s' hj=>?_⟩;rw[List.getElem?_set]at hj;split at hj
    ·rename_i e;subst e;split at hj
     ·cases hj;exact⟨s,hs,rfl,rfl⟩
     ·cases hj
    ·exact⟨s',hj,rfl,rfl⟩
   ·exact hP) ks
theorem servF_in (sv pt win:Nat)(ex:List (Nat×Nat)):∀(f:Nat) (s:CliQ) (ss:List SrvQ),SameIn ss (servF sv pt win ex f s ss).2:=by
 intro f;induction f with
 |zero=>intro s ss;exact SameIn.refl _
 |succ f ih=>
  intro s ss;unfold servF;split
  ·split
   ·exact SameIn.refl _
   ·exact(sendsK_in _ _ _ _ _ _ _).trans (ih _ _)
  ·exact SameIn.refl _
theorem runJ_in (sv pt win i:Nat)(st:List CliQ×List SrvQ):SameIn st.2 (runJ sv pt win i st).2:=by
 unfold runJ;split
 ·exact SameIn.refl _
 ·exact servF_in _ _ _ _ _ _ _
def heldOf (ss:List SrvQ)(o:Nat):Nat:=match ss[o]?with
 |some s=>s.held.length
 |none=>0
theorem heldOf_some (h:ss[o]?=some s):heldOf ss o=s.held.length:=by unfold heldOf;rw[h]
def lisF (sv pt win o:Nat):Nat→List CliQ×List SrvQ→(List CliQ×List SrvQ)×Bool
 |0,st=>(st,true)
 |f+1,st=>match st.2[o]?with
  |none=>(st,true)
  |some s=>match hearO st.1 s o with
   |⟨.inl ok⟩=>(st,ok)
   |⟨.inr (i,k,m,r)⟩=>lisF sv pt win o f (runJ sv pt win i (anJ st.1 i k m r,st.2.set o {s with held:=s.held.drop r.used}))
theorem hearO_got (h:hearO cs s o= .got i k m r):7≤r.used∧r.used≤s.held.length∧findP o r.id cs 0=some (i,k,m)∧mayB (kindAt cs i k) r=true∧fromR s.held=(some r,true):=by
 unfold hearO at h;split at h
 ·cases h
 ·rename_i r' ok hf;obtain⟨e,_,_,_,h7,hl⟩:=fromR_some hf;subst e;split at h
  ·cases h
  ·rename_i i' k' m' hp;split at h
   ·cases h;exact⟨h7,hl,hp,‹_›,hf⟩
   ·cases h
theorem got_held (hs:st.2[o]?=some s)(h:hearO st.1 s o= .got i k m r):∃s',(runJ sv pt win i (anJ st.1 i k m r,st.2.set o {s with held:=s.held.drop r.used})).2[o]?=some s'∧s'.held=s.held.drop r.used∧s'.up=s.up∧s'.held.length<s.held.length:=by
 obtain⟨h7,hl,_⟩:=hearO_got h;have hol:=(List.getElem?_eq_some_iff.1 hs).1;obtain⟨s',a1,a2,a3⟩:=(runJ_in sv pt win i (anJ st.1 i k m r,st.2.set o {s with held:=s.held.drop r.used})).at_ (List.getElem?_set_self hol);exact⟨s',a1,a2,a3,by rw[a2];show(s.held.drop r.used).length<_;rw[List.length_drop];omega⟩
theorem lisF_more (sv pt win o:Nat):∀(f:Nat) (st:List CliQ×List SrvQ) (g:Nat),heldOf st.2 o<f→f≤g→lisF sv pt win o g st=lisF sv pt win o f st:=by
 intro f;induction f with
 |zero=>intro st g h _;omega
 |succ f ih=>
  intro st g h hg;obtain⟨g,rfl⟩:∃z,g=z+1:=⟨g-1,by omega⟩
  unfold lisF;cases hs:st.2[o]?with
  |none=>rfl
  |some s=>
   simp only
   cases hh:hearO st.1 s o using HO.el with
   |stop ok=>rfl
   |got i k m r=>
    simp only
    obtain⟨s',a1,_,_,a4⟩:=got_held (sv:=sv) (pt:=pt) (win:=win) hs hh;rw[heldOf_some hs]at h;exact ih _ g (by rw[heldOf_some a1];omega) (by omega)
def lisJ (sv pt win o:Nat)(st:List CliQ×List SrvQ):(List CliQ×List SrvQ)×Bool:=lisF sv pt win o (heldOf st.2 o+1) st
theorem lisJ_stop {ok:Bool}(hs:st.2[o]?=some s)(h:hearO st.1 s o= .stop ok):lisJ sv pt win o st=(st,ok):=by
 unfold lisJ lisF;rw[hs];simp only
 rw[h]
theorem lisJ_got (hs:st.2[o]?=some s)(h:hearO st.1 s o= .got i k m r):lisJ sv pt win o st=lisJ sv pt win o (runJ sv pt win i (anJ st.1 i k m r,st.2.set o {s with held:=s.held.drop r.used})):=by
 obtain⟨s',a1,_,_,a4⟩:=got_held (sv:=sv) (pt:=pt) (win:=win) hs h;unfold lisJ;conv=>lhs;unfold lisF;rw[hs];simp only;rw[h]
 simp only
 rw[heldOf_some hs];exact lisF_more sv pt win o _ _ _ (Nat.lt_succ_self _) (by rw[heldOf_some a1];omega)
def listenJ (sv pt win o:Nat)(st:List CliQ×List SrvQ):List CliQ×List SrvQ:=if(lisJ sv pt win o st).2=true then(lisJ sv pt win o st).1 else fallJ sv pt win o (lisJ sv pt win o st).1
theorem BdJ.an {T:Nat}(h:BdJ win T cs ss)(i k m o:Nat)(r:Reply)(hs:ss[o]?=some s)(l:List UInt8):BdJ win T (anJ cs i k m r) (ss.set o {s with held:=l}):=by
 have hS:∀u∈ss.set o {s with held:=l},u.next<65536∧u.sent.length+4000*heldSum cs≤T:=fun u hu=>by
  rcases List.mem_or_eq_of_mem_set hu with h1|h1
  ·exact h.srv u h1
  ·rw[h1];exact h.srv s (List.mem_of_getElem? hs)
 unfold anJ;split
 ·exact⟨h.told,h.wl,hS⟩
 ·rename_i c hc;have hm:=List.mem_of_getElem? hc;have e:(anC c k m r).told=c.told∧(anC c k m r).qs.length=c.qs.length∧(anC c k m r).st=c.st:=by
   unfold anC;split
   ·exact⟨rfl,rfl,rfl⟩
   ·exact⟨rfl,by simp,rfl⟩
  refine⟨fun x hx=>?_,fun x hx=>?_,fun u hu=>?_⟩
  ·rcases List.mem_or_eq_of_mem_set hx with h1|h1
   ·exact h.told x h1
   ·rw[h1,e.1,e.2.1,e.2.2];exact h.told c hm
  ·rcases List.mem_or_eq_of_mem_set hx with h1|h1
   ·exact h.wl x h1
   ·rw[h1,e.2.1];exact h.wl c hm
  ·have e2:heldSum (cs.set i (anC c k m r))=heldSum cs:=by rw[heldSum_set hc,heldSum_at hc,e.2.2]
   rw[e2];exact hS u hu
section
variable {W W':World}{X sv pt win g sc:Nat}{cv:Value}{cis:List CliV}{cs:List CliQ}{vs:List SrvV}{ss:List SrvQ}
theorem JunQ.old (h:JunQ W X sv pt win g sc cv cis cs vs ss):∀b∈footQ X cv cis vs,b<W.heap.size:=by
 intro b hb;unfold footQ at hb;rcases List.mem_cons.1 hb with e|hb
 ·rw[e];exact blkLt h.blk
 rcases List.mem_append.1 hb with hb|hb
 ·exact(h.nRow (mem_own hb)).1
 rcases List.mem_append.1 hb with hb|hb
 ·obtain⟨i,v,hv,hbv⟩:=mem_civ.1 hb;exact civ_old h hv b hbv
 ·exact h.srv.old b hb
theorem JunQ.keep (h:JunQ W X sv pt win g sc cv cis cs vs ss)(k:∀b,b∈footQ X cv cis vs∨b=g→W'.heap[b]?=W.heap[b]?):JunQ W' X sv pt win g sc cv cis cs vs ss:=by
 obtain⟨Zg,g1,g2⟩:=h.gb;have kc:∀(i:Nat) (v:CliV),cis[i]?=some v→∀b∈v.foot,W'.heap[b]?=W.heap[b]?:=fun i v hv b hb=>k b (.inl (by unfold footQ;exact List.mem_cons_of_mem _ (List.mem_append.2 (.inr (List.mem_append.2 (.inl (mem_civ.2 ⟨i,v,hv,hb⟩)))))))
 exact⟨(k X (.inl (by simp[footQ]))).trans h.blk,⟨Zg,(k g (.inr rfl)).trans g1,g2⟩,h.len,h.s1,h.s4,h.sc_,h.pt_,h.w6,ownsRow_other h.row (fun gg hg=>k gg (.inl (by simp[footQ,hg]))),h.cl,h.c4,fun i v s hv hs=>(h.cli i v s hv hs).keep (kc i v hv),h.cap,h.srv.keep (fun b hb=>k b (.inl (by unfold footQ;exact List.mem_cons_of_mem _ (List.mem_append.2 (.inr (List.mem_append.2 (.inr hb))))))),h.ap,h.mr,h.wl⟩
theorem JunQ.below (h:JunQ W X sv pt win g sc cv cis cs vs ss)(hb:Below W.heap.size W W'):JunQ W' X sv pt win g sc cv cis cs vs ss:=by
 refine h.keep (fun b hb'=>?_);obtain⟨Zg,g1,_⟩:=h.gb;rcases hb' with e|e
 ·exact hb.block b (h.old b e)
 ·rw[e];exact hb.block g (blkLt g1)
theorem JunQ.chg {N:List Nat}(h:JunQ W X sv pt win g sc cv cis cs vs ss)(hc:Chg N W W')(hn:∀b∈N,b∉footQ X cv cis vs∧b≠g):JunQ W' X sv pt win g sc cv cis cs vs ss:=by
 refine h.keep (fun b hb=>?_);obtain⟨Zg,g1,_⟩:=h.gb;rcases hb with e|e
 ·exact hc.block b (h.old b e) (fun hm=>(hn b hm).1 e)
 ·rw[e];exact hc.block g (blkLt g1) (fun hm=>(hn g hm).2 rfl)
end
def heldLenS (w:World)(D:Nat):Nat:=
 match w.cell? ⟨D,3,none⟩,w.cell? ⟨D,4,none⟩with
 |some (.slice _ n _),some (.int _ u)=>n-u.toNat
 |_,_=>0
theorem SInAt.len {W:World}{D:Nat}{t:SvP}{hb:Option Nat}{s:St}(R:SInAt W D hb t s):heldLenS W D=s.held.length:=by
 obtain⟨⟨v,u,hD,H,hiv⟩,hne⟩:=R;obtain⟨d0,d1,d2,_⟩:=siCells hD;unfold heldLenS;rw[d1,d2];rcases H.form with⟨rfl,rfl,e,_⟩|⟨g,n,c,all,rfl,_,_,hn,hnc,hu,e,hsm,_⟩
 ·rw[e];rfl
 ·rw[e,List.length_drop,hn];simp
theorem listen1_yes (sb xb yb:Nat)(u:FrameMode)(w:World)(c0:w.cell? ⟨sb,0,none⟩=some (.bool true)):CallsD Tryz.prog 93 #[.pointer (some ⟨sb,0,none⟩),.pointer (some ⟨xb,0,none⟩),.pointer (some ⟨yb,0,none⟩)] u w fun e u' w'=>u'=u∧(e= .returned (.tuple #[])∧w'=w):=by
 have hlt:=World.block_lt_of_cell? w ⟨sb,0,none⟩ c0;go_enter_d Tryz.func93,Tryz.ntmps93
 go_wp2;go_end0;exact⟨rfl,rfl⟩
theorem listen1_no (sb xb yb X S:Nat)(u:FrameMode)(w:World)(Q:World→Prop)(c0:w.cell? ⟨sb,0,none⟩=some (.bool false))(c1:w.cell? ⟨xb,0,none⟩=some (.pointer (some ⟨X,0,none⟩)))(c2:w.cell? ⟨yb,0,none⟩=some (.pointer (some ⟨S,0,none⟩)))(hc:Calls Tryz.prog 64 #[.pointer (some ⟨X,0,none⟩),.pointer (some ⟨S,0,none⟩)] w fun e w'=>e= .returned (.tuple #[])∧Q w'):CallsD Tryz.prog 93 #[.pointer (some ⟨sb,0,none⟩),.pointer (some ⟨xb,0,none⟩),.pointer (some ⟨yb,0,none⟩)] u w fun e u' w'=>u'=u∧(e= .returned (.tuple #[])∧Q w'):=by
 have hlt:=World.block_lt_of_cell? w ⟨sb,0,none⟩ c0;have hlt1:=World.block_lt_of_cell? w ⟨xb,0,none⟩ c1;have hlt2:=World.block_lt_of_cell? w ⟨yb,0,none⟩ c2;have HC:=hide' hc;clear hc;go_enter_d Tryz.func93,Tryz.ntmps93
 go_wp2_with fail
 go_at_call 64;refine HC.out.mono ?_;rintro e w1 ⟨rfl,hq⟩;have HQ:=hide' hq;clear hq;go_wp2;go_end0;exact⟨rfl,HQ.out⟩
end Go.Proofs.YtlonjggfnleolaaGreatDoor
namespace Go.Proofs.YtlonjggfnleolaaGreatDoor
open Go.RowKit Go.Shelf
set_option linter.unusedVariables false
variable {o b i:Nat}{s:CliQ}{W W':World}{p:PS}{kb:Option Nat}{kv:Value}{ss:List ByteArray}{x:QS}
theorem free_skip {nx:Nat}{ex ps:List (Nat×Nat)}(hnx:nx<65536)(he:(idsAt o ex).length≤1000)(hp:(idsAt o ps).length≤1000)(hd:∀id∈idsAt o ps,∃d,1≤d∧d≤1000∧(id+d) % 65536=nx):freeJ nx (idsAt o (ex++ps))=freeJ nx (idsAt o ex):=by
 have happ:idsAt o (ex++ps)=idsAt o ex++idsAt o ps:=by unfold idsAt;rw[List.filter_append,List.map_append]
 obtain⟨a1,a2,a3⟩:=freeJ_spec nx (idsAt o ex) (by omega);rw[happ];refine freeJ_eq nx _ (by rw[List.length_append];omega) _ (fun hm=>?_) (fun i hi=>List.mem_append.2 (.inl (a3 i hi)));rcases List.mem_append.1 hm with e|e
 ·exact a2 e
 ·obtain⟨d,d1,d2,d3⟩:=hd _ e;omega
def Behind (n:Nat)(st:List SrvQ×List PS):Prop:=∀(o id:Nat),(o,id)∈opPs st.2→∃s d,st.1[o]?=some s∧1≤d∧d≤n∧(id+d) % 65536=s.next
theorem Behind.ids {n:Nat}{st:List SrvQ×List PS}(h:Behind n st)(hn:n≤1000){s:SrvQ}(hs:st.1[o]?=some s):∀id∈idsAt o (opPs st.2),∃d,1≤d∧d≤1000∧(id+d) % 65536=s.next:=fun id hid=>by
 obtain⟨s',d,h1,h2,h3,h4⟩:=h o id (mem_idsAt.1 hid)
 rw[hs]at h1
 cases h1
 exact⟨d,h2,by omega,h4⟩
theorem sendsK_behind (sv pt:Nat)(k:Int)(val:ByteArray)(ex:List (Nat×Nat))(ss:List SrvQ)(he:ex.length≤100)(hnx:∀s∈ss,s.next<65536)(ks:List ByteArray):ks.length≤4→Behind (200*ks.length) (sendsK sv pt k val ex ss ks)∧(sendsK sv pt k val ex ss ks).2.length=ks.length∧∀s∈(sendsK sv pt k val ex ss ks).1,s.next<65536:=
 sendsK_ind sv pt k val ex ss (fun ks st=>ks.length≤4→Behind (200*ks.length) st∧st.2.length=ks.length∧∀s∈st.1,s.next<65536) (fun _=>⟨fun o id h=>(by cases h),rfl,hnx⟩) (fun ks key st hP hl=>by
  rw[List.length_append,List.length_singleton]at hl;obtain⟨b1,b2,b3⟩:=hP (by omega);rw[List.length_append,List.length_singleton];have hop:∀p,opPs (st.2++[p])=opPs st.2++opPs [p]:=fun p=>opPs_app _ _
  unfold sendK;split
  ·refine⟨fun o id h=>?_,by simp[b2],b3⟩;rw[hop]at h;simp[opPs]at h;obtain⟨s,d,h1,h2,h3,h4⟩:=b1 o id (by unfold opPs;simpa using h);exact⟨s,d,h1,h2,by omega,h4⟩
  ·rename_i s hs;have hsn:=b3 s (List.mem_of_getElem? hs);split
   ·rename_i hup;simp only
    have hil:(idsAt (ownerN sv pt key) (ex++opPs st.2)).length≤104:=by
     have:=idsAt_len (ownerN sv pt key) (ex++opPs st.2);have h2:=opPs_len st.2;rw[List.length_append]at this;omega
    obtain⟨f1,_,_⟩:=freeJ_spec s.next _ (show(idsAt (ownerN sv pt key) (ex++opPs st.2)).length<65536 by omega);generalize freeJ s.next (idsAt (ownerN sv pt key) (ex++opPs st.2))=j at*;have hol:=(List.getElem?_eq_some_iff.1 hs).1;refine⟨fun o id h=>?_,by simp[b2],fun u hu=>?_⟩
    ·simp only at h⊢;rw[hop]at h;rcases List.mem_append.1 h with h|h
     ·obtain⟨s1,d,h1,h2,h3,h4⟩:=b1 o id h;by_cases ho:ownerN sv pt key=o
      ·subst ho;rw[hs]at h1;cases h1;exact⟨_,d+j+1,List.getElem?_set_self hol,by omega,by omega,by show _=(s.next+j+1) % 65536;omega⟩
      ·exact⟨s1,d,by rw[List.getElem?_set_ne ho];exact h1,h2,by omega,h4⟩
     ·have he2:(o,id)=(ownerN sv pt key,(s.next+j) % 65536):=by simpa [opPs]using h
      cases he2;exact⟨_,1,List.getElem?_set_self hol,Nat.le_refl _,by omega,by show _=(s.next+j+1) % 65536;omega⟩
    ·rcases List.mem_or_eq_of_mem_set hu with h1|h1
     ·exact b3 u h1
     ·rw[h1];exact Nat.mod_lt _ (by decide)
   ·refine⟨fun o id h=>?_,by simp[b2],b3⟩;rw[hop]at h;simp[opPs]at h;obtain⟨s1,d,h1,h2,h3,h4⟩:=b1 o id (by unfold opPs;simpa using h);exact⟨s1,d,h1,h2,by omega,h4⟩) ks
structure RQI where
 B:Nat
 kv:Value
 kb:Option Nat
 pv:Value
 bs:List Nat
def RQI.foot (v:RQI):List Nat:=v.B::(v.kb.toList++(v.pv.ownBlock.toList++v.bs))
def RPartQ (W:World)(b:Nat):PS→Prop
 |⟨.inl none⟩=>False
 |⟨.inl (some (o,id))⟩=>W.heap[b]?=some (rpO o id 0 0 ⟨#[]⟩)
 |⟨.inr (some (st,v))⟩=>∃o id:Nat,W.heap[b]?=some (rpO o id 1 st v)
 |⟨.inr none⟩=>∃o id:Nat,W.heap[b]?=some (rpO o id 2 0 ⟨#[]⟩)
theorem RPartQ.blk (h:RPartQ W b p):∃Z,W.heap[b]?=some (.cells Z 253 (0,0)):=by
 cases p using PS.el with
 |un=>exact h.elim
 |op o id=>exact⟨_,h⟩
 |an st v=>obtain⟨o,id,h⟩:=h;exact⟨_,h⟩
 |fl=>obtain⟨o,id,h⟩:=h;exact⟨_,h⟩
theorem RPartQ.keep (h:RPartQ W b p)(k:W'.heap[b]?=W.heap[b]?):RPartQ W' b p:=by
 cases p using PS.el with
 |un=>exact h.elim
 |op o id=>exact k.trans h
 |an st v=>obtain⟨o,id,h⟩:=h;exact⟨o,id,k.trans h⟩
 |fl=>obtain⟨o,id,h⟩:=h;exact⟨o,id,k.trans h⟩
def KeysB (W:World)(kb:Option Nat)(kv:Value)(ss:List ByteArray):Prop:=
 (kb=none∧ss=[]∧∃ka kc,kv= .slice ka 0 kc∧((∃b o,ka=some ⟨b,o,none⟩∧b<W.heap.size)∨kc=0))∨∃b o c Z,kb=some b∧kv= .slice (some ⟨b,o,none⟩) ss.length c∧W.heap[b]?=some (.cells Z 9 (0,0))∧(∀(i:Nat) (s:ByteArray),ss[i]?=some s→Z[o+i]?=some (.string s))∧ss.length≤c
theorem KeysB.keep (h:KeysB W kb kv ss)(hs:W.heap.size≤W'.heap.size)(k:∀b,kb=some b→W'.heap[b]?=W.heap[b]?):KeysB W' kb kv ss:=by
 rcases h with⟨e1,e2,ka,kc,e3,e4⟩|⟨b,o,c,Z,e1,e2,e3,e4⟩
 ·refine .inl ⟨e1,e2,ka,kc,e3,?_⟩;rcases e4 with⟨b,o,e5,e6⟩|e5
  ·exact .inl ⟨b,o,e5,by omega⟩
  ·exact .inr e5
 ·exact .inr ⟨b,o,c,Z,e1,e2,(k b e1).trans e3,e4⟩
theorem KeysB.of {lo:Nat}(h:KeysR W lo kv ss):∃kb,KeysB W kb kv ss∧∀b,kb=some b→lo≤b:=by
 rcases h with⟨e1,e2⟩|⟨b,o,c,Z,e1,e2,e3,e4⟩
 ·exact⟨none,.inl ⟨rfl,e2,none,0,e1,.inr rfl⟩,fun b e=>by cases e⟩
 ·exact⟨some b,.inr ⟨b,o,c,Z,rfl,e1,e3,e4⟩,fun b' e=>by cases e;exact e2⟩
theorem KeysB.strs (h:KeysB W kb kv ss)(hl:ss.length≤1000)(h8:∀s∈ss,s.size≤8):∃a c,kv= .slice a ss.length c∧StrsIn W a ss.length c ss:=by
 have hz:∀s∈ss,s.size≤maxLen:=fun s hs=>by have:=h8 s hs;unfold maxLen;omega
 rcases h with⟨e1,e2,ka,kc,e3,e4⟩|⟨b,o,c,Z,e1,e2,e3,e4,e5⟩
 ·refine⟨ka,kc,by rw[e3,e2];rfl,rfl,by rw[e2];exact Nat.zero_le _,by omega,hz,?_⟩;rcases e4 with⟨b,o,e5,e6⟩|e5
  ·exact .inl ⟨b,o,e5,e6,fun i s hs=>by rw[e2]at hs;simp at hs⟩
  ·exact .inr ⟨e2,e5⟩
 ·exact⟨_,c,e2,rfl,e5,by omega,hz,.inl ⟨b,o,rfl,blkLt e3,fun i s hs=>(blkCell e3 _).trans (e4 i s hs)⟩⟩
structure RQuAt (W:World)(v:RQI)(x:QS):Prop where
 blk:W.heap[v.B]?=some (rwO x.c v.kv v.pv)
 row:W.ownsRow 0 249 1 v.pv v.bs.length (v.bs.map ptrV)
 len:v.bs.length=x.ps.length
 ok:∀(i b:Nat) (p:PS),v.bs[i]?=some b→x.ps[i]?=some p→RPartQ W b p
 keys:KeysB W v.kb v.kv x.c.keys
theorem RQuAt.part {v:RQI}(h:RQuAt W v x)(hb:b∈v.bs):∃(i:Nat) (p:PS),v.bs[i]?=some b∧x.ps[i]?=some p∧RPartQ W b p:=by
 obtain⟨i,hi,e⟩:=List.mem_iff_getElem.1 hb;have e1:v.bs[i]?=some b:=by rw[List.getElem?_eq_getElem hi,e]
 have hi2:i<x.ps.length:=by rw[←h.len];exact hi
 exact⟨i,_,e1,List.getElem?_eq_getElem hi2,h.ok i b _ e1 (List.getElem?_eq_getElem hi2)⟩
theorem RQuAt.kind {v:RQI}(h:RQuAt W v x):∀b∈v.foot,∃Z T,W.heap[b]?=some (.cells Z T (0,0))∧(T=266∨T=9∨T=249∨T=253):=by
 intro b hb;unfold RQI.foot at hb;rcases List.mem_cons.1 hb with rfl|hb
 ·exact⟨_,_,h.blk,.inl rfl⟩
 rcases List.mem_append.1 hb with hb|hb
 ·have hb:=optMem hb;rcases h.keys with⟨e,_⟩|⟨b',o,c,Z,e1,e2,e3,e4⟩
  ·rw[e]at hb;cases hb
  ·rw[e1]at hb;cases hb;exact⟨_,_,e3,.inr (.inl rfl)⟩
 rcases List.mem_append.1 hb with hb|hb
 ·obtain⟨cur,hc⟩:=ownsRow_blk h.row (mem_own hb);exact⟨_,_,hc,.inr (.inr (.inl rfl))⟩
 ·obtain⟨i,p,_,_,hp⟩:=h.part hb;obtain⟨Z,hZ⟩:=hp.blk;exact⟨_,_,hZ,.inr (.inr (.inr rfl))⟩
theorem RQuAt.old {v:RQI}(h:RQuAt W v x):∀b∈v.foot,b<W.heap.size:=fun b hb=>by
 obtain⟨Z,T,h1,_⟩:=h.kind b hb
 exact blkLt h1
theorem RQuAt.keep {v:RQI}(h:RQuAt W v x)(hs:W.heap.size≤W'.heap.size)(k:∀b∈v.foot,W'.heap[b]?=W.heap[b]?):RQuAt W' v x:=
 ⟨(k _ (by simp[RQI.foot])).trans h.blk,ownsRow_other h.row (fun g hg=>k g (by simp[RQI.foot,hg])),h.len,fun i b p hb hp=>(h.ok i b p hb hp).keep (k b (by simp[RQI.foot,List.mem_of_getElem? hb])),h.keys.keep hs (fun b hb=>k b (by simp[RQI.foot,hb]))⟩
def feetRQ (ws:List RQI):List Nat:=(ws.map RQI.foot).flatten
theorem mem_feetRQ {ws:List RQI}:b∈feetRQ ws↔∃v∈ws,b∈v.foot:=by
 unfold feetRQ;rw[List.mem_flatten];constructor
 ·rintro ⟨l,hl,hb⟩;obtain⟨v,hv,rfl⟩:=List.mem_map.1 hl;exact⟨v,hv,hb⟩
 ·rintro ⟨v,hv,hb⟩;exact⟨_,List.mem_map.2 ⟨v,hv,rfl⟩,hb⟩
theorem feetRQ_cons (v:RQI)(ws:List RQI):feetRQ (v::ws)=v.foot++feetRQ ws:=rfl
theorem feetRQ_app (a b:List RQI):feetRQ (a++b)=feetRQ a++feetRQ b:=by unfold feetRQ;simp
theorem feetRQ_one (v:RQI):feetRQ [v]=v.foot:=by unfold feetRQ;simp
structure RCliV where
 K:Nat
 Y:Nat
 wv:Value
 ws:List RQI
def RCliV.foot (v:RCliV):List Nat:=v.K::v.Y::(v.wv.ownBlock.toList++feetRQ v.ws)
structure RCliQ (W:World)(v:RCliV)(s:CliQ):Prop where
 blk:W.heap[v.K]?=some (rcO s.d v.Y v.wv s.told)
 rd:RefAt W v.Y s.d s.st
 row:OffRow W 263 v.wv (v.ws.map (fun u=>ptrV u.B))
 len:v.ws.length=s.qs.length
 qu:∀(i:Nat) (u:RQI) (x:QS),v.ws[i]?=some u→s.qs[i]?=some x→RQuAt W u x
 nd:(feetRQ v.ws).Nodup
 ok:∀x∈s.qs,QSOk s.d x
theorem RCliQ.get {v:RCliV}(h:RCliQ W v s){u:RQI}(hu:u∈v.ws):∃(i:Nat) (x:QS),v.ws[i]?=some u∧s.qs[i]?=some x∧RQuAt W u x:=by
 obtain⟨i,hi,e⟩:=List.mem_iff_getElem.1 hu;have hi2:i<s.qs.length:=by rw[←h.len];exact hi
 have e1:v.ws[i]?=some u:=by rw[List.getElem?_eq_getElem hi,e]
 exact⟨i,_,e1,List.getElem?_eq_getElem hi2,h.qu i _ _ e1 (List.getElem?_eq_getElem hi2)⟩
theorem RCliQ.kindQ {v:RCliV}(h:RCliQ W v s):∀b∈feetRQ v.ws,∃Z T,W.heap[b]?=some (.cells Z T (0,0))∧(T=266∨T=9∨T=249∨T=253):=fun b hb=>by
 obtain⟨u,hu,hbu⟩:=mem_feetRQ.1 hb
 obtain⟨i,x,_,_,hq⟩:=h.get hu
 exact hq.kind b hbu
theorem RCliQ.kind {v:RCliV}(h:RCliQ W v s):∀b∈v.foot,∃Z T,W.heap[b]?=some (.cells Z T (0,0))∧(T=247∨T=195∨T=263∨T=266∨T=9∨T=249∨T=253):=by
 intro b hb;unfold RCliV.foot at hb;rcases List.mem_cons.1 hb with e|hb
 ·rw[e];exact⟨_,_,h.blk,.inl rfl⟩
 rcases List.mem_cons.1 hb with e|hb
 ·rw[e];exact⟨_,_,h.rd.at_,.inr (.inl rfl)⟩
 rcases List.mem_append.1 hb with hb|hb
 ·obtain⟨cur,hc⟩:=h.row.blk (mem_own hb);exact⟨_,_,hc,.inr (.inr (.inl rfl))⟩
 ·obtain⟨Z,T,h1,h2⟩:=h.kindQ b hb;exact⟨Z,T,h1,.inr (.inr (.inr h2))⟩
theorem RCliQ.old {v:RCliV}(h:RCliQ W v s):∀b∈v.foot,b<W.heap.size:=fun b hb=>by
 obtain⟨Z,T,h1,_⟩:=h.kind b hb
 exact blkLt h1
theorem RCliQ.keep {v:RCliV}(h:RCliQ W v s)(hs:W.heap.size≤W'.heap.size)(k:∀b∈v.foot,W'.heap[b]?=W.heap[b]?):RCliQ W' v s:=
 ⟨(k _ (by simp[RCliV.foot])).trans h.blk,⟨(k _ (by simp[RCliV.foot])).trans h.rd.at_,h.rd.ok⟩,h.row.other (fun g hg=>k g (by simp[RCliV.foot,hg])),h.len,fun i u x hu hx=>(h.qu i u x hu hx).keep hs (fun b hb=>k b (by unfold RCliV.foot;exact List.mem_cons_of_mem _ (List.mem_cons_of_mem _ (List.mem_append.2 (.inr (mem_feetRQ.2 ⟨u,List.mem_of_getElem? hu,hb⟩)))))),h.nd,h.ok⟩
structure RJunQ (W:World)(X sv pt win:Nat)(cv rv:Value)(cis:List RCliV)(cs:List CliQ)(vs:List Nat)(ss:List SrvQ):Prop where
 blk:W.heap[X]?=some (rjO sv pt win cv rv)
 crow:W.ownsRow 0 244 1 cv cis.length (cis.map (fun v=>ptrV v.K))
 srow:W.ownsRow 0 241 1 rv vs.length (vs.map ptrV)
 len:vs.length=sv
 sl:ss.length=sv
 s1:1≤sv
 s4:sv≤4
 p1:1≤pt
 pt_:pt≤16
 w6:win≤6
 cl:cis.length=cs.length
 c4:cis.length≤4
 cli:∀(i:Nat) (v:RCliV) (s:CliQ),cis[i]?=some v→cs[i]?=some s→RCliQ W v s
 cap:∀(i j:Nat) (v u:RCliV),i≠j→cis[i]?=some v→cis[j]?=some u→∀b∈v.foot,b∉u.foot
 srv:∀(j:Nat) (S:Nat) (s:SrvQ),vs[j]?=some S→ss[j]?=some s→W.heap[S]?=some (rsO s.up s.next (mkB s.held) s.sent)
 sap:vs.Nodup
 wl:∀s∈cs,s.qs.length≤win
 nx:∀s∈ss,s.next<65536
def footRJ (X:Nat)(cv:Value)(cis:List RCliV)(vs:List Nat):List Nat:=X::(cv.ownBlock.toList++((cis.map RCliV.foot).flatten++vs))
theorem mem_rciv {cis:List RCliV}:b∈(cis.map RCliV.foot).flatten↔∃(i:Nat) (v:RCliV),cis[i]?=some v∧b∈v.foot:=by
 rw[List.mem_flatten];constructor
 ·rintro ⟨l,hl,hb⟩;obtain⟨v,hv,rfl⟩:=List.mem_map.1 hl;obtain⟨j,hj,e⟩:=List.mem_iff_getElem.1 hv;exact⟨j,v,by rw[List.getElem?_eq_getElem hj,e],hb⟩
 ·rintro ⟨j,v,hv,hb⟩;exact⟨v.foot,List.mem_map.2 ⟨v,List.mem_of_getElem? hv,rfl⟩,hb⟩
theorem mem_footRJ {X:Nat}{cv:Value}{cis:List RCliV}{vs:List Nat}:b∈footRJ X cv cis vs↔b=X∨cv.ownBlock=some b∨(∃(i:Nat) (v:RCliV),cis[i]?=some v∧b∈v.foot)∨b∈vs:=by
 unfold footRJ;rw[List.mem_cons,List.mem_append,List.mem_append,mem_rciv];constructor
 ·rintro (h|h|h|h)
  ·exact .inl h
  ·exact .inr (.inl (mem_own h))
  ·exact .inr (.inr (.inl h))
  ·exact .inr (.inr (.inr h))
 ·rintro (h|h|h|h)
  ·exact .inl h
  ·exact .inr (.inl (by rw[h];simp))
  ·exact .inr (.inr (.inl h))
  ·exact .inr (.inr (.inr h))
section
variable {W W':World}{X sv pt win:Nat}{cv rv:Value}{cis:List RCliV}{cs:List CliQ}{vs:List Nat}{ss:List SrvQ}
theorem RJunQ.get (h:RJunQ W X sv pt win cv rv cis cs vs ss){v:RCliV}(hv:cis[i]?=some v):∃s,cs[i]?=some s∧RCliQ W v s:=by
 have hi:i<cs.length:=by rw[←h.cl];exact(List.getElem?_eq_some_iff.1 hv).1
 exact⟨_,List.getElem?_eq_getElem hi,h.cli i v _ hv (List.getElem?_eq_getElem hi)⟩
theorem RJunQ.getC (h:RJunQ W X sv pt win cv rv cis cs vs ss)(hs:cs[i]?=some s):∃v,cis[i]?=some v∧RCliQ W v s:=by
 have hi:i<cis.length:=by rw[h.cl];exact(List.getElem?_eq_some_iff.1 hs).1
 exact⟨_,List.getElem?_eq_getElem hi,h.cli i _ s (List.getElem?_eq_getElem hi) hs⟩
theorem RJunQ.getS (h:RJunQ W X sv pt win cv rv cis cs vs ss)(hb:b∈vs):∃s:SrvQ,W.heap[b]?=some (rsO s.up s.next (mkB s.held) s.sent):=by
 obtain⟨j,hj,e⟩:=List.mem_iff_getElem.1 hb;have hj2:j<ss.length:=by rw[h.sl,←h.len];exact hj
 exact⟨_,h.srv j b _ (by rw[List.getElem?_eq_getElem hj,e]) (List.getElem?_eq_getElem hj2)⟩
theorem RJunQ.types (h:RJunQ W X sv pt win cv rv cis cs vs ss)(hb:b∈footRJ X cv cis vs):∃Z T,W.heap[b]?=some (.cells Z T (0,0))∧(T=240∨T=244∨T=243∨T=247∨T=195∨T=263∨T=266∨T=9∨T=249∨T=253):=by
 rcases mem_footRJ.1 hb with e|e|⟨i,v,hv,e⟩|e
 ·rw[e];exact⟨_,_,h.blk,.inl rfl⟩
 ·obtain⟨cur,hc⟩:=ownsRow_blk h.crow e;exact⟨_,_,hc,.inr (.inl rfl)⟩
 ·obtain⟨s,hs,hok⟩:=h.get hv;obtain⟨Z,T,h1,h2⟩:=hok.kind b e;exact⟨Z,T,h1,.inr (.inr (.inr h2))⟩
 ·obtain⟨s,h1⟩:=h.getS e;exact⟨_,_,h1,.inr (.inr (.inl rfl))⟩
theorem RJunQ.old (h:RJunQ W X sv pt win cv rv cis cs vs ss)(hb:b∈footRJ X cv cis vs):b<W.heap.size:=by
 obtain⟨Z,T,h1,_⟩:=h.types hb;exact blkLt h1
theorem RJunQ.keep (h:RJunQ W X sv pt win cv rv cis cs vs ss)(hs:W.heap.size≤W'.heap.size)(k:∀b∈footRJ X cv cis vs,W'.heap[b]?=W.heap[b]?)(k2:KeepT [241] W W'):RJunQ W' X sv pt win cv rv cis cs vs ss:=
 ⟨(k _ (mem_footRJ.2 (.inl rfl))).trans h.blk,ownsRow_other h.crow (fun g hg=>k g (mem_footRJ.2 (.inr (.inl hg)))),k2.row (by simp) h.srow,h.len,h.sl,h.s1,h.s4,h.p1,h.pt_,h.w6,h.cl,h.c4,fun i v s hv hs'=>(h.cli i v s hv hs').keep hs (fun b hb=>k b (mem_footRJ.2 (.inr (.inr (.inl ⟨i,v,hv,hb⟩))))),h.cap,fun j S s hS hs'=>(k S (mem_footRJ.2 (.inr (.inr (.inr (List.mem_of_getElem? hS)))))).trans (h.srv j S s hS hs'),h.sap,h.wl,h.nx⟩
theorem RJunQ.below (h:RJunQ W X sv pt win cv rv cis cs vs ss)(hb:Below W.heap.size W W'):RJunQ W' X sv pt win cv rv cis cs vs ss:=h.keep hb.size (fun b hm=>hb.block b (h.old hm)) (KeepT.below hb)
theorem RJunQ.cliTo (h:RJunQ W X sv pt win cv rv cis cs vs ss){v v':RCliV}{s':CliQ}(hv:cis[i]?=some v)(k:Chg v.foot W W')(hn:RCliQ W' v' s')(hK:v'.K=v.K)(hl:Later W v.foot v'.foot)(hw:s'.qs.length≤win):RJunQ W' X sv pt win cv rv (cis.set i v') (cs.set i s') vs ss∧Later W (footRJ X cv cis vs) (footRJ X cv (cis.set i v') vs):=by
 have hil:=(List.getElem?_eq_some_iff.1 hv).1;have hil2:i<cs.length:=by rw[←h.cl];exact hil
 obtain⟨s0,hs0,hok0⟩:=h.get hv;have hmap:(cis.set i v').map (fun v=>ptrV v.K)=cis.map (fun v=>ptrV v.K):=by
  apply List.ext_getElem?;intro j;rw[List.getElem?_map,List.getElem?_map,List.getElem?_set];split
  ·rename_i e;subst e;rw[hv];simp[hK]
  ·rfl
 have old:∀(j:Nat) (u:RCliV),cis[j]?=some u→∀b∈u.foot,b<W.heap.size:=fun j u hu b hb=>h.old (mem_footRJ.2 (.inr (.inr (.inl ⟨j,u,hu,hb⟩))))
 have kT:∀Ts:List Nat,247∉Ts→195∉Ts→263∉Ts→266∉Ts→9∉Ts→249∉Ts→253∉Ts→KeepT Ts W W':=fun Ts a1 a2 a3 a4 a5 a6 a7=>KeepT.chg k (fun b T Z f hm hZ hT=>by
  obtain⟨Z',T',h4,h5⟩:=hok0.kind b hm;rw[h4]at hZ;simp at hZ;obtain⟨_,rfl,_⟩:=hZ;rcases h5 with rfl|rfl|rfl|rfl|rfl|rfl|rfl
  ·exact a1 hT
  ·exact a2 hT
  ·exact a3 hT
  ·exact a4 hT
  ·exact a5 hT
  ·exact a6 hT
  ·exact a7 hT)
 have hb:=h.blk;unfold rjO at hb;refine⟨⟨((kT [240] (by simp) (by simp) (by simp) (by simp) (by simp) (by simp) (by simp)) _ _ _ _ hb (by simp)).trans hb,?_,(kT [241] (by simp) (by simp) (by simp) (by simp) (by simp) (by simp) (by simp)).row (by simp) h.srow,h.len,h.sl,h.s1,h.s4,h.p1,h.pt_,h.w6,by simp[h.cl],by rw[List.length_set];exact h.c4,fun j u s hu hs=>?_,fun a j u1 u2 hij h1 h2 b hb1 hb2=>?_,fun j S s hS hs=>?_,h.sap,fun s hs=>?_,h.nx⟩,fun b hb=>?_⟩
 ·rw[hmap,List.length_set];exact(kT [244] (by simp) (by simp) (by simp) (by simp) (by simp) (by simp) (by simp)).row (by simp) h.crow
 ·by_cases hji:i=j
  ·subst hji;rw[List.getElem?_set_self hil]at hu;rw[List.getElem?_set_self hil2]at hs;cases hu;cases hs;exact hn
  ·rw[List.getElem?_set_ne hji]at hu hs;exact(h.cli j u s hu hs).keep k.size (fun b hb=>k.block b (old j u hu b hb) (h.cap j i u v (fun e=>hji e.symm) hu hv b hb))
 ·rw[List.getElem?_set]at h1 h2;split at h1
  ·rename_i e1;subst e1;split at h2
   ·rename_i e2;exact hij e2
   ·simp at h1;subst h1;rcases hl b hb1 with h3|h3
    ·exact h.cap i j v u2 hij hv h2 b h3 hb2
    ·have:=old j u2 h2 b hb2;omega
  ·split at h2
   ·rename_i e2;subst e2;simp at h2;subst h2;rcases hl b hb2 with h3|h3
    ·exact h.cap a i u1 v hij h1 hv b hb1 h3
    ·have:=old a u1 h1 b hb1;omega
   ·exact h.cap a j u1 u2 hij h1 h2 b hb1 hb2
 ·have h1:=h.srv j S s hS hs;have h2:=h1;unfold rsO at h2;exact((kT [243] (by simp) (by simp) (by simp) (by simp) (by simp) (by simp) (by simp)) _ _ _ _ h2 (by simp)).trans h1
 ·rcases List.mem_or_eq_of_mem_set hs with h1|h1
  ·exact h.wl s h1
  ·rw[h1];exact hw
 ·rcases mem_footRJ.1 hb with e|e|⟨j,u,hu,e⟩|e
  ·exact .inl (mem_footRJ.2 (.inl e))
  ·exact .inl (mem_footRJ.2 (.inr (.inl e)))
  ·rw[List.getElem?_set]at hu;split at hu
   ·simp at hu;subst hu;rcases hl b e with h3|h3
    ·exact .inl (mem_footRJ.2 (.inr (.inr (.inl ⟨i,v,hv,h3⟩))))
    ·exact .inr h3
   ·exact .inl (mem_footRJ.2 (.inr (.inr (.inl ⟨j,u,hu,e⟩))))
  ·exact .inl (mem_footRJ.2 (.inr (.inr (.inr e))))
theorem RJunQ.srvs {ss':List SrvQ}(h:RJunQ W X sv pt win cv rv cis cs vs ss)(k:Chg vs W W')(hs:∀(j:Nat) (S:Nat) (s:SrvQ),vs[j]?=some S→ss'[j]?=some s→W'.heap[S]?=some (rsO s.up s.next (mkB s.held) s.sent))(hl:ss'.length=ss.length)(hnx:∀s∈ss',s.next<65536):RJunQ W' X sv pt win cv rv cis cs vs ss':=by
 have kT:∀Ts:List Nat,243∉Ts→KeepT Ts W W':=fun Ts h1=>KeepT.chg k (fun b T Z f hm hZ hT=>by
  obtain⟨s,hS0⟩:=h.getS hm;unfold rsO at hS0;rw[hS0]at hZ;simp at hZ;obtain⟨_,rfl,_⟩:=hZ;exact h1 hT)
 have hb:=h.blk;unfold rjO at hb;refine⟨((kT [240] (by simp)) _ _ _ _ hb (by simp)).trans hb,(kT [244] (by simp)).row (by simp) h.crow,(kT [241] (by simp)).row (by simp) h.srow,h.len,hl.trans h.sl,h.s1,h.s4,h.p1,h.pt_,h.w6,h.cl,h.c4,fun i v s hv hs'=>?_,h.cap,hs,h.sap,h.wl,hnx⟩;have hc:=h.cli i v s hv hs';refine hc.keep k.size (fun b hb=>?_);obtain⟨Z,T,h1,h2⟩:=hc.kind b hb;exact(kT [T] (by simp;rcases h2 with e|e|e|e|e|e|e<;>(subst e;decide))) b T Z _ h1 (by simp)
end
end Go.Proofs.YtlonjggfnleolaaGreatDoor
