import Derived.Test.YtlonjggfnleolaaGreatDoorRnGa
namespace Go.Proofs.YtlonjggfnleolaaGreatDoor
open Go.RowKit Go.Shelf
set_option linter.unusedVariables false
set_option maxHeartbeats 4000000
set_option maxRecDepth 100000
def RServedQ (w w':World)(X sv pt win:Nat)(cv rv:Value)(cis:List RCliV)(cs:List CliQ)(vs:List Nat)(i K T E:Nat)(d:Int)(tg:CliQ×List SrvQ):Prop:=
 BdQ win T E tg.1 tg.2∧tg.1.d=d∧∃v',v'.K=K∧RJunQ w' X sv pt win cv rv (cis.set i v') (cs.set i tg.1) vs tg.2∧Chg (footRJ X cv cis vs) w w'∧Later w (footRJ X cv cis vs) (footRJ X cv (cis.set i v') vs)
section
variable {w wr w':World}{X sv pt win:Nat}{cv rv:Value}{cis:List RCliV}{cs:List CliQ}{vs:List Nat}{i K Y T E:Nat}{d:Int}{v:RCliV}{s:CliQ}{ss:List SrvQ}{tg:CliQ×List SrvQ}
theorem RSrvQ.done (h:RSrvQ w wr X sv pt win cv rv cis cs vs i K Y T E d v s ss tg)(hst:tellQs s=s)(hd:¬s.qs.length<win∨readR s.d s.st.held=none)(hb:Below wr.heap.size wr w'):RServedQ w w' X sv pt win cv rv cis cs vs i K T E d tg:=by
 have e:tg=(s,ss):=by
  rw[←h.tgt,hst];exact servQ_stop hd
 have h':=h.below hb;subst e;exact⟨h'.bd,h'.d_,v,h.K_,h'.jun,h'.chg,h'.lat⟩
theorem RJunQ.op96 (h:RJunQ w X sv pt win cv rv cis cs vs ss):(opJ cs).length≤96:=by
 have h1:=opJ_len cs 24 (fun s hs=>by
  obtain⟨i,hi,e⟩:=List.mem_iff_getElem.1 hs;have e1:cs[i]?=some s:=by rw[List.getElem?_eq_getElem hi,e]
  obtain⟨v,hv,hc⟩:=h.getC e1;have h1:=opQs_len s.qs 4 (fun x hx=>by
   have:=(hc.ok x hx).len;have:=(hc.ok x hx).w.cm.k4;omega)
  have h2:=h.wl s hs;have h3:=h.w6;omega)
 have h4:=h.c4;have h5:=h.cl;omega
theorem RSrvQ.exl (h:RSrvQ w wr X sv pt win cv rv cis cs vs i K Y T E d v s ss tg)(hi:i<cis.length):(exAt cs i++opQs s.qs).length≤96:=by
 have hcl:=h.jun.cl;rw[List.length_set,List.length_set]at hcl;have h1:=h.jun.op96;have h2:=opJ_at (cs:=cs.set i s) (i:=i) (s:=s) (by rw[List.getElem?_set_self (by omega)]);rw[exAt_set]at h2;rw[←h2.length_eq];exact h1
end
theorem rservesQ {w:World}{X sv pt win:Nat}{cv rv:Value}{cis:List RCliV}{cs:List CliQ}{vs:List Nat}{i K Y T E:Nat}{d:Int}{v0:RCliV}{s0:CliQ}{ss0:List SrvQ}{tg:CliQ×List SrvQ}(h0:RSrvQ w w X sv pt win cv rv cis cs vs i K Y T E d v0 s0 ss0 tg)(hi:i<cis.length)(hT:T+5000≤100000000000)(hd:d=1∨d=2∨d=3):Calls Tryz.prog 151 #[.pointer (some ⟨X,0,none⟩),.pointer (some ⟨K,0,none⟩)] w fun e w'=>e= .returned (.tuple #[])∧RServedQ w w' X sv pt win cv rv cis cs vs i K T E d tg:=by
 have H0:=hide' h0;have hw6:=h0.jun.w6;have hcl:cs.length=cis.length:=by have:=h0.jun.cl;rw[List.length_set,List.length_set]at this;exact this.symm
 clear h0;obtain⟨i1,hi1,hi2,hi3,hi4⟩:=info249;have HI:=hide' (And.intro hi1 (And.intro hi2 (And.intro hi3 hi4)));obtain⟨i2,hj1,hj2,hj3,hj4⟩:=info263;have HI2:=hide' (And.intro hj1 (And.intro hj2 (And.intro hj3 hj4)));have HCL:=hide' hcl;clear hi1 hi2 hi3 hi4 hj1 hj2 hj3 hj4 hcl;go_enter Tryz.func151,Tryz.ntmps151;go_wp2;go_loopw [4,5,6,7,8] (fun _ _ _ _ _ wr=>∃(v:RCliV) (s:CliQ) (ss:List SrvQ),Hid (RSrvQ w wr X sv pt win cv rv cis cs vs i K Y T E d v s ss tg)) (fun _ _ _ _ _ wr=>rMeas wr K Y)
 case atStart=>exact⟨v0,s0,ss0,H0⟩
 case round=>
  obtain⟨v,s,ss,HJ⟩:=hrel;have hok:=HJ.out.cli hi;have hme:=hok.meas;rw[HJ.out.K_,HJ.out.Y_]at hme;have hwl:=HJ.out.bd.wl;have hbt:=HJ.out.bd.told;by_cases hcase:∃c cs',s.qs=c::cs'∧c.n=0
  ·obtain⟨c,cs',hw,hk⟩:=hcase;have hcw:=hok.ok c (by rw[hw];simp);have HT:=rtellsQ hok (by rw[HJ.out.d_];exact hd) hw (by omega) (by omega);rw[HJ.out.K_]at HT;have HTc:=hide' HT;have HNx:Hid (∀(w1:World) (e:Ending),RTold wr w1 v s c cs' e→e= .returned (.bool true)∧∃v',RSrvQ w w1 X sv pt win cv rv cis cs vs i K Y T E d v' ⟨s.d,s.st,cs',s.told++(toldB s.d c).data.toList⟩ ss tg∧rMeas w1 K Y<rMeas wr K Y):=fun w1 e hr=>by
    rcases hr with⟨h1,_⟩|⟨_,rfl,v',a1,a2,a3,a4,a5⟩
    ·exact absurd hk h1
    ·have hS:=HJ.out.cliTo hi a1 a2 a3 a4 a5 (by rw[tellQs_step hw hk];exact HJ.out.tgt) (HJ.out.bd.told1 (by rw[HJ.out.d_];exact hd) hw hcw) HJ.out.d_;refine⟨rfl,v',hS,?_⟩;have h2:=(hS.cli hi).meas;rw[hS.K_,hS.Y_]at h2;rw[h2,hme,hw];show 2*s.st.held.length+cs'.length<_;simp only[List.length_cons]
     omega
   clear HT hok hcw hw hk;go_wp2_with fail
   go_at_call 166;refine HTc.out.mono ?_;intro e w1 hr;obtain⟨rfl,hr2⟩:=HNx.out w1 e hr;have HR:=hide' hr2;clear hr hr2;go_wp2;go_roundw;case rel=>exact HR.out.elim fun v' h=>⟨v',_,_,h.1⟩
   case measure=>exact HR.out.elim fun v' h=>h.2
  ·have hst:tellQs s=s:=by
    cases hw:s.qs with
    |nil=>exact tellQs_nil hw
    |cons c cs'=>exact tellQs_stop hw (fun hk=>hcase ⟨c,cs',hw,hk⟩)
   have HT:Calls Tryz.prog 166 #[.pointer (some ⟨v.K,0,none⟩)] wr fun e w'=>e= .returned (.bool false)∧Below wr.heap.size wr w':=by
    cases hw:s.qs with
    |nil=>exact rtellsQ_nil hok hw
    |cons c cs'=>
     refine(rtellsQ hok (by rw[HJ.out.d_];exact hd) hw (by omega) (by omega)).mono ?_;rintro e w' (⟨h1,h2,h3⟩|⟨h1,_⟩)
     ·exact⟨h2,h3⟩
     ·exact absurd ⟨c,cs',hw,h1⟩ hcase
   rw[HJ.out.K_]at HT;have HTc:=hide' HT;have HSt:=hide' hst;clear HT hok hcase hst;go_wp2_with fail
   go_at_call 166;refine HTc.out.mono ?_;rintro e w1 ⟨rfl,hb1⟩;have HJ1:=hide' (HJ.out.below hb1);clear hb1 HTc;have hok1:=HJ1.out.cli hi;have hK:=hok1.blk;rw[HJ1.out.K_,HJ1.out.Y_]at hK;unfold rcO at hK;obtain⟨wa,wc,hwv⟩:=hok1.row.len;rw[List.length_map]at hwv;rw[hwv]at hK;have k1:=blkCell hK 1;have k2:=blkCell hK 2;simp at k1 k2;have hKl:=blkLt hK;have hX:=HJ1.out.jun.blk;unfold rjO at hX;have x2:=blkCell hX 2;simp at x2;have hXl:=blkLt hX;have hvl:v.ws.length=s.qs.length:=hok1.len;have hvl2:v.ws.length≤1000:=by omega
   by_cases hlw:s.qs.length<win
   ·have hge:¬(win:Int)≤(v.ws.length:Int):=by omega
    have HME:Hid (rMeas w1 K Y=2*s.st.held.length+s.qs.length):=by have:=hok1.meas;rw[HJ1.out.K_,HJ1.out.Y_]at this;exact this
    have hwvf:=hwv;clear hok1 hK hX hwv;go_wp2_with fail
    go_quiet (fail)
    go_wp2_with fail
    have HJ2:=hide' (HJ1.out.below (below_drewN (Below.refl _ _) nq));clear k1 k2 x2 hKl hXl HJ1 HME;generalize w1.drewN nq=w2 at*;have hok2:=HJ2.out.cli hi;have HNx:=hide' (refnext_any Y d s.st w2 hd (by have:=hok2.rd;rw[HJ2.out.Y_,HJ2.out.d_]at this;exact this) (by omega));clear hok2;go_at_call 149;refine HNx.out.mono ?_;rintro e w3 ⟨hno,hT3⟩;unfold NextOut at hno;clear HNx;cases hr:readR d s.st.held with
    |none=>
     rw[hr]at hno;obtain⟨rfl,hR3⟩:=hno;have hr':readR s.d s.st.held=none:=by rw[HJ2.out.d_];exact hr
     have HD:Hid (∀o,RServedQ w (w3.alloc o) X sv pt win cv rv cis cs vs i K T E d tg):=fun o=>(HJ2.out.nextNone hi hT3 hR3).done HSt.out (.inr hr') ((Below.refl _ _).alloc (Nat.le_refl _) o)
     clear hr hr' hT3 hR3;unfold zCmdV;go_wp2;refine bodyPost_ret (v:= .tuple #[]) (by simp[results,Tryz.results151,go_sem]) rfl ⟨rfl,HD.out _⟩
    |some x=>
     rw[hr]at hno;obtain⟨kv,rfl,hky,hR3⟩:=hno;have hr':readR s.d s.st.held=some x:=by rw[HJ2.out.d_];exact hr
     obtain⟨h3,_⟩:=HJ2.out.next hi hT3 hR3;have hwk:=read_wOk hr';have h4k:=hwk.cm.k4;have hex:=HJ2.out.exl hi;have hex0:(exAt cs i++opQs s.qs).length≤100:=by omega
     obtain⟨EX,hEX⟩:∃EX,exAt cs i++opQs s.qs=EX:=⟨_,rfl⟩
     have hbd3:∀j,∀u∈(sendsK sv pt x.c.kind x.c.val EX ss (x.c.keys.take j)).1,u.sent.length≤100000000000:=fun j u hu=>by
      have h5:=(sendsK_bd sv pt x.c.kind x.c.val hwk.cm.v40 EX ss T (fun u0 hu0=>by have:=HJ2.out.bd.srv u0 hu0;exact⟨this.1,by omega⟩) (x.c.keys.take j) (fun k hk=>hwk.cm.k8 k (List.mem_of_mem_take hk)) u hu).2;have h6:(x.c.keys.take j).length≤4:=by rw[List.length_take];omega
      omega
     have hcb:∀key∈x.c.keys,cmdB x.c.kind [key] x.c.val=true:=fun key hk=>by
      rcases hwk.ok.or_ with⟨e,_⟩|⟨_,e,_⟩
      ·exact cmdB_one e hk
      ·rw[e]at hk;cases hk
     have hpm:(opJ (cs.set i {s with st:=afterS s.st x})).Perm EX:=by
      have h2:=opJ_at (cs:=cs.set i {s with st:=afterS s.st x}) (i:=i) (s:={s with st:=afterS s.st x}) (by rw[List.getElem?_set_self (by rw[HCL.out];exact hi)]);rw[exAt_set]at h2;rw[←hEX];exact h2
     rw[hEX]at hex hex0;have HSd:Hid (∀(wr':World) (j:Nat) (pv:Value) (bs:List Nat) (key:ByteArray),RMidQ w3 wr' sv pt vs EX ss x.c kv w2.heap.size w3.heap.size (w3.heap.size+1) j pv bs→x.c.keys[j]?=some key→Calls Tryz.prog 167 #[.pointer (some ⟨X,0,none⟩),cmdVR x.c kv,.string key] wr'.drew fun e w'=>∃P p,e= .returned (.pointer (some ⟨P,0,none⟩))∧RSentQ wr' w' X sv pt win cv rv (cis.set i v) (cs.set i {s with st:=afterS s.st x}) vs (sendsK sv pt x.c.kind x.c.val EX ss (x.c.keys.take (j+1))).1 p P∧(sendsK sv pt x.c.kind x.c.val EX ss (x.c.keys.take (j+1))).2=(sendsK sv pt x.c.kind x.c.val EX ss (x.c.keys.take j)).2++[p]):=fun wr' j pv bs key hm hk=>by
      have hjl:=(List.getElem?_eq_some_iff.1 hk).1;have hjr:=hm.jun h3 hex0 h4k;have hop:=hjr.op96;refine(rsendsQ (hjr.below (Below.refl _ _).drew) (by omega) x.c kv key (hcb key (List.mem_of_getElem? hk)) (hbd3 j)).mono ?_;rintro e w' ⟨P,h1,h2⟩;have h2:=h2.undrew;obtain⟨q1,q2,q3⟩:=sendsK_behind sv pt x.c.kind x.c.val EX ss hex0 h3.nx (x.c.keys.take j) (by rw[List.length_take];omega);have hl4:(x.c.keys.take j).length≤4:=by rw[List.length_take];omega
      have ek:x.c.keys.take (j+1)=x.c.keys.take j++[key]:=by rw[List.take_add_one,hk];rfl
      have es:=sendK_one (sv:=sv) (pt:=pt) (k:=x.c.kind) (val:=x.c.val) (key:=key) q1 (by omega) (show EX.length≤1000 by omega) (by omega) q3;rw[sendOne_perm hpm (by omega)]at h2;refine⟨P,(sendOne sv pt x.c.kind x.c.val EX (sendsK sv pt x.c.kind x.c.val EX ss (x.c.keys.take j)).1 key).2,h1,?_,?_⟩
      ·rw[ek,sendsK_snoc,es];exact h2
      ·rw[ek,sendsK_snoc,es]
     have HMore:Hid (∀(wr' w5 wa:World) (j P g2 cap2:Nat) (pv:Value) (bs:List Nat) (key:ByteArray) (p:PS),RMidQ w3 wr' sv pt vs EX ss x.c kv w2.heap.size w3.heap.size (w3.heap.size+1) j pv bs→x.c.keys[j]?=some key→RSentQ wr' w5 X sv pt win cv rv (cis.set i v) (cs.set i {s with st:=afterS s.st x}) vs (sendsK sv pt x.c.kind x.c.val EX ss (x.c.keys.take (j+1))).1 p P→(sendsK sv pt x.c.kind x.c.val EX ss (x.c.keys.take (j+1))).2=(sendsK sv pt x.c.kind x.c.val EX ss (x.c.keys.take j)).2++[p]→wa.ownsRow 0 249 1 (.slice (some ⟨g2,0,none⟩) (j+1) cap2) (j+1) (bs.map ptrV++[.pointer (some ⟨P,0,none⟩)])→(w5.alloc (.cells #[.pointer (some ⟨P,0,none⟩)] 249)).grownBy wa pv.ownBlock→(pv.ownBlock=some g2∨g2=(w5.alloc (.cells #[.pointer (some ⟨P,0,none⟩)] 249)).heap.size)→∃bs',RMidQ w3 (wa.setCell ⟨w3.heap.size+1,6,none⟩ (.slice (some ⟨g2,0,none⟩) (j+1) cap2)) sv pt vs EX ss x.c kv w2.heap.size w3.heap.size (w3.heap.size+1) (j+1) (.slice (some ⟨g2,0,none⟩) (j+1) cap2) bs'):=fun wr' w5 wa j P g2 cap2 pv bs key p hm hk hs hp h1 h2 h3'=>by
      have hjl:=(List.getElem?_eq_some_iff.1 hk).1;exact hm.more hk (hm.jun h3 hex0 h4k) hp (by rw[(sendsK_len sv pt x.c.kind x.c.val EX ss (x.c.keys.take j)).2,List.length_take];omega) hs h1 h2 h3'
     have HSnt:Hid (∀(wr' w5:World) (j P:Nat) (pv:Value) (bs:List Nat) (ss':List SrvQ) (p:PS),RMidQ w3 wr' sv pt vs EX ss x.c kv w2.heap.size w3.heap.size (w3.heap.size+1) j pv bs→RSentQ wr' w5 X sv pt win cv rv (cis.set i v) (cs.set i {s with st:=afterS s.st x}) vs ss' p P→w5.heap[w3.heap.size]?=some (cmdO x.c kv)∧w5.heap[w3.heap.size+1]?=some (rwO x.c kv pv)∧KeysR w5 w2.heap.size kv x.c.keys∧w5.ownsRow 0 249 1 pv j (bs.map ptrV)):=fun wr' w5 j P pv bs ss' p hm hs=>hm.sent (hm.jun h3 hex0 h4k) hs
     have HM0:=hide' (RMidQ.start (ex:=EX) h3 hky);have HGot:Hid (∀(wr' wa:World) (pv:Value) (bs:List Nat) (va:Option Addr) (vc:Nat),RMidQ w3 wr' sv pt vs EX ss x.c kv w2.heap.size w3.heap.size (w3.heap.size+1) x.c.keys.length pv bs→OffRow wa 263 (.slice va (v.ws.length+1) vc) (v.ws.map (fun u=>ptrV u.B)++[.pointer (some ⟨w3.heap.size+1,0,none⟩)])→Chg v.wv.ownBlock.toList (wr'.alloc (.cells #[.pointer (some ⟨w3.heap.size+1,0,none⟩)] 263)) wa→((Value.slice va (v.ws.length+1) vc).ownBlock=v.wv.ownBlock∨(Value.slice va (v.ws.length+1) vc).ownBlock=some (wr'.alloc (.cells #[.pointer (some ⟨w3.heap.size+1,0,none⟩)] 263)).heap.size)→∃v',RSrvQ w (wa.setCell ⟨K,2,none⟩ (.slice va (v.ws.length+1) vc)) X sv pt win cv rv cis cs vs i K Y T E d v' (gotQ sv pt (exAt cs i) s ss x).1 (gotQ sv pt (exAt cs i) s ss x).2 tg):=fun wr' wa pv bs va vc hm h1 h2 h3'=>HJ2.out.got hi hlw HSt.out hr' hT3 hR3 (by rw[hEX];exact hex0) (by rw[hEX];exact hm) h1 h2 h3'
     have HKc:Hid (∀(wr':World) (j:Nat) (pv:Value) (bs:List Nat),RMidQ w3 wr' sv pt vs EX ss x.c kv w2.heap.size w3.heap.size (w3.heap.size+1) j pv bs→wr'.heap[K]?=some (.cells #[.int .i64 s.d,.pointer (some ⟨Y,0,none⟩),.slice wa v.ws.length wc,.string (mkB s.told)] 247 (0,0))∧OffRow wr' 263 (.slice wa v.ws.length wc) (v.ws.map (fun u=>ptrV u.B))):=fun wr' j pv bs hm=>by
      have hjr:=hm.jun h3 hex0 h4k;have hcl:=hjr.cl;rw[List.length_set,List.length_set]at hcl;have hcr:=hjr.cli i v {s with st:=afterS s.st x} (by rw[List.getElem?_set_self hi]) (by rw[List.getElem?_set_self (by omega)]);have hb:=hcr.blk;have hrw:=hcr.row;rw[HJ2.out.K_,HJ2.out.Y_,hwvf]at hb;rw[hwvf]at hrw;exact⟨hb,hrw⟩
     have HMes:Hid (∀(w':World) (v':RCliV) (ss':List SrvQ),RSrvQ w w' X sv pt win cv rv cis cs vs i K Y T E d v' (gotQ sv pt (exAt cs i) s ss x).1 ss' tg→rMeas w' K Y<rMeas wr K Y):=fun w' v' ss' h=>by
      have h2:=(h.cli hi).meas;rw[h.K_,h.Y_]at h2;rw[h2,hme];show 2*(afterS s.st x).held.length+(s.qs++[_]).length<_;have:=afterS_len hr';rw[List.length_append,List.length_singleton];omega
     rw[hwvf]at HGot;obtain⟨ka,kc,hkv⟩:=hky.form;subst hkv;have hafl:=afterS_len hr';clear hr hr' h3 hwk hbd3 hcb hky hT3 hR3 hpm hEX hex hex0;unfold cmdVR at HSd⊢;unfold cmdO rwO at HM0;go_wp2_with fail
     generalize (w3.alloc (.cells #[.int .i64 x.c.kind,.slice ka x.c.keys.length kc,.string x.c.val,.string x.c.word,.bool x.c.fatal,.int .i64 x.c.id] 36)).alloc (.cells #[.int .i64 x.c.kind,.slice ka x.c.keys.length kc,.string x.c.val,.string x.c.word,.bool x.c.fatal,.int .i64 x.c.id,.slice none 0 0] 266)=w4 at*;generalize hkn:x.c.keys.length=kn at*;have HKN:=hide' hkn;clear hkn;go_loopw [8] (fun q wr'=>∃(j:Nat) (pv:Value) (bs:List Nat),j≤kn∧q= .int .i64 (j:Int)∧Hid (RMidQ w3 wr' sv pt vs EX ss x.c (.slice ka kn kc) w2.heap.size w3.heap.size (w3.heap.size+1) j pv bs)) (fun q _=>kn-(intOf q).toNat)
     case atStart=>exact⟨0,_,[],Nat.zero_le _,rfl,HM0⟩
     case round=>
      obtain⟨j,pv,bs,hj,rfl,HM⟩:=hrel;obtain⟨pa,pc,hpv⟩:=row_form HM.out.row;subst hpv;have hmb:=HM.out.mb;unfold cmdO at hmb;have hwb:=HM.out.wb_;unfold rwO at hwb;have m0:=blkCell hmb 0;have m1:=blkCell hmb 1;have m2:=blkCell hmb 2;have m3:=blkCell hmb 3;have m4:=blkCell hmb 4;have m5:=blkCell hmb 5;have b6:=blkCell hwb 6;simp at m0 m1 m2 m3 m4 m5 b6;have bf:=blkFree hwb;have hMl:=blkLt hmb;have hBl:=blkLt hwb;by_cases hlt:j<kn
      ·have hlt':(j:Int)<(kn:Int):=by omega
       obtain⟨key,hkey⟩:∃key,x.c.keys[j]?=some key:=⟨_,List.getElem?_eq_getElem (by rw[HKN.out];exact hlt)⟩
       obtain⟨kb,ko,hka,hkk⟩:=HM.out.ky.some (by rw[HKN.out];omega);clear hkk;subst hka;obtain⟨ck,Zk,hZk⟩:=HM.out.ky.cell hkey;have hkl:=blkLt hZk;have nM:(Value.slice pa j pc).ownBlock≠some w3.heap.size:=fun e=>by
        obtain⟨cur,hc⟩:=ownsRow_blk HM.out.row e;rw[hmb]at hc;simp at hc
       have nB:(Value.slice pa j pc).ownBlock≠some (w3.heap.size+1):=fun e=>by
        obtain⟨cur,hc⟩:=ownsRow_blk HM.out.row e;rw[hwb]at hc;simp at hc
       have nk:(Value.slice pa j pc).ownBlock≠some kb:=fun e=>by
        obtain⟨cur,hc⟩:=ownsRow_blk HM.out.row e;rw[hZk]at hc;simp at hc
       have HNe:=hide' (And.intro nM (And.intro nB nk));have hkB:¬kb=w3.heap.size+1:=fun e=>by rw[e,hwb]at hZk;simp at hZk
       have hkB2:¬w3.heap.size+1=kb:=fun e=>hkB e.symm
       have HX:=hide' (HSd.out wr j _ bs key HM.out hkey);have HKey:=hide' hkey;have wrj:IntKind.i64.wrap ((j:Int)+1)=(j:Int)+1:=wrap_small _ (by omega) (by omega);clear hmb hwb hZk nM nB nk hkey;go_wp2_with fail
       go_region_law (first
        |(go_simp;go_at_call 167;refine HX.out.mono ?_;rintro e w5 ⟨P,p,rfl,hs5,hp5⟩;obtain⟨y1,y2,y3,y4⟩:=HSnt.out wr w5 j P _ bs _ p HM.out hs5;unfold cmdO at y1;unfold rwO at y2;obtain⟨ck5,Zk5,hZk5⟩:=y3.cell HKey.out;have n0:=blkCell y1 0;have n1:=blkCell y1 1;have n2:=blkCell y1 2;have n3:=blkCell y1 3;have n4:=blkCell y1 4;have n5:=blkCell y1 5;have b65:=blkCell y2 6;simp at n0 n1 n2 n3 n4 n5 b65;have bf5:=blkFree y2;have hMl5:=blkLt y1;have hBl5:=blkLt y2;have hkl5:=blkLt hZk5;have HS5:=hide' (And.intro (And.intro hs5 hp5) (And.intro y4 (And.intro y1 (And.intro y2 hZk5))));clear hs5 hp5 y1 y2 y3 y4 hZk5 m0 m1 m2 m3 m4 m5 bf ck)
        |(refine step_append_lies _ (by rfl) _ _ _ (by rfl) 0 249 i1 (.pointer none) 1 8 Tryz.underlying264 HI.out.1 HI.out.2.1 HI.out.2.2.1 HI.out.2.2.2 (by rfl) (by omega) (.slice pa j pc) j (bs.map ptrV) (by rfl) (World.ownsRow.alloc HS5.out.2.1 _) ⟨w5.heap.size,0,none⟩ 1 1 [.pointer (some ⟨P,0,none⟩)] (by rfl) (by rfl) (World.news_of_block (cs:=#[.pointer (some ⟨P,0,none⟩)]) (blkNew w5 _)) (fun u hu=>by simp at hu;subst hu;rfl) (by omega) (by unfold maxLen;omega) (by omega) (Nat.zero_le _) _ rfl ?_;intro g2 cap2 w6 hown hgrow hat hlta;have z1:=(hgrow.block w3.heap.size (by simp;omega) (fun e=>HNe.out.1 e.symm)).trans (hs_alloc HS5.out.2.2.1 _);have z2:=(hgrow.block (w3.heap.size+1) (by simp;omega) (fun e=>HNe.out.2.1 e.symm)).trans (hs_alloc HS5.out.2.2.2.1 _);have z3:=hgrow.cell_far ⟨kb,ko+j,none⟩ (by simp;omega) (fun e=>HNe.out.2.2 e.symm);have ck6:w6.cell? ⟨kb,ko+j,none⟩=some (.string key):=z3.trans ((World.cell?_of_block (w:=w5) (Below.heap_alloc w5 _ _ hkl5)).trans ck5);have q0:=blkCell z1 0;have q1:=blkCell z1 1;have q2:=blkCell z1 2;have q3:=blkCell z1 3;have q4:=blkCell z1 4;have q5:=blkCell z1 5;have b66:=blkCell z2 6;simp at q0 q1 q2 q3 q4 q5 b66;have bf6:=blkFree z2;have hMl6:=blkLt z1;have hBl6:=blkLt z2;have HG:=hide' (HMore.out wr w5 w6 j P g2 cap2 _ bs key p HM.out HKey.out HS5.out.1.1 HS5.out.1.2 hown hgrow hat);clear hown hgrow hat hlta z1 z2 z3 n0 n1 n2 n3 n4 n5 bf5 ck5)
        |fail)
       all_goals
        clear q0 q1 q2 q3 q4 q5 b66 bf6 ck6
        generalize w6.setCell ⟨w3.heap.size+1,6,none⟩ (.slice (some ⟨g2,0,none⟩) (j+1) cap2)=wf at*
        go_wp2
        go_roundw
        case rel=>exact HG.out.elim fun bs' h=>⟨j+1,_,bs',by omega,by go_num,h⟩
        case measure=>simp[intOf];omega
      ·have hje:j=kn:=by omega
       subst hje;have hlt':¬(j:Int)<(j:Int):=by omega
       obtain⟨hKb,hRw⟩:=HKc.out wr j _ bs HM.out;have k2:=blkCell hKb 2;simp at k2;have kf:=blkFree hKb;have hKl:=blkLt hKb;obtain⟨xs,hxs⟩:∃xs,xs=v.ws.map (fun u=>ptrV u.B):=⟨_,rfl⟩
       have hxl:v.ws.length=xs.length:=by rw[hxs];simp
       have HGt:Hid (∀(w9:World) (va:Option Addr) (vc:Nat),OffRow w9 263 (.slice va (xs.length+1) vc) (xs++[.pointer (some ⟨w3.heap.size+1,0,none⟩)])→Chg (Value.slice wa xs.length wc).ownBlock.toList (wr.alloc (.cells #[.pointer (some ⟨w3.heap.size+1,0,none⟩)] 263)) w9→((Value.slice va (xs.length+1) vc).ownBlock=(Value.slice wa xs.length wc).ownBlock∨(Value.slice va (xs.length+1) vc).ownBlock=some (wr.alloc (.cells #[.pointer (some ⟨w3.heap.size+1,0,none⟩)] 263)).heap.size)→∃v',RSrvQ w (w9.setCell ⟨K,2,none⟩ (.slice va (xs.length+1) vc)) X sv pt win cv rv cis cs vs i K Y T E d v' (gotQ sv pt (exAt cs i) s ss x).1 (gotQ sv pt (exAt cs i) s ss x).2 tg):=fun w9 va vc h1 h2 h3=>by
        rw[←hxl]at h1 h2 h3⊢;rw[hxs]at h1;exact HGot.out wr w9 _ bs va vc HM.out h1 h2 h3
       rw[←hxs,hxl]at hRw;rw[hxl]at k2 hvl2;have nK:(Value.slice wa xs.length wc).ownBlock≠some K:=fun e=>by
        obtain⟨cur,hc⟩:=hRw.blk e;rw[hKb]at hc;simp at hc
       have HRw:Hid (OffRow (wr.alloc (.cells #[.pointer (some ⟨w3.heap.size+1,0,none⟩)] 263)) 263 (.slice wa xs.length wc) xs):=hRw.other (fun g hg=>by obtain⟨cur,hc⟩:=hRw.blk hg;exact Below.heap_alloc _ _ _ (blkLt hc));have hNw:(wr.alloc (.cells #[.pointer (some ⟨w3.heap.size+1,0,none⟩)] 263)).cell? ⟨wr.heap.size,0,none⟩=some (.pointer (some ⟨w3.heap.size+1,0,none⟩)):=blkCell (blkNew wr _) 0;have HNw:=hide' hNw;have HKB:=hide' (And.intro hKb nK);clear hmb hwb hRw hKb nK hNw hxs hvl hge hlw hwvf HGot HKc HSd HMore HSnt;go_wp2_with (first
        |(at_builtin;refine wpList_append_off _ rfl _ _ _ rfl 263 i2 (.pointer none) Tryz.underlying245 HI2.out.1 HI2.out.2.1 rfl HI2.out.2.2.1 HI2.out.2.2.2 (.slice wa xs.length wc) xs rfl HRw.out ⟨wr.heap.size,0,none⟩ 1 (.pointer (some ⟨w3.heap.size+1,0,none⟩)) rfl HNw.out rfl (by omega) ?_;intro va vc w9 h1 h2 h3;have hK9:=(h2.block K (by simp;omega) (fun hm=>HKB.out.2 (mem_own hm))).trans ((Below.heap_alloc wr _ _ hKl).trans HKB.out.1);have k29:=blkCell hK9 2;have kf9:=blkFree hK9;simp at k29;have hKl9:=blkLt hK9;have HF:=hide' (HGt.out w9 va vc h1 h2 h3);clear h1 h2 h3 hK9 k2 kf)
        |fail)
       go_roundw;case rel=>exact HF.out.elim fun v' h=>⟨v',_,_,h⟩
       case measure=>exact HF.out.elim fun v' h=>HMes.out _ v' _ h
   ·have hge:(win:Int)≤(v.ws.length:Int):=by omega
    have HD:=hide' (fun q=>HJ1.out.done HSt.out (.inl hlw) (below_drewN (Below.refl _ _) q));clear hok1 hK hX hwv;go_wp2_with fail
    go_quiet (fail)
    go_wp2;refine bodyPost_ret (v:= .tuple #[]) (by simp[results,Tryz.results151,go_sem]) rfl ⟨rfl,HD.out nq⟩
end Go.Proofs.YtlonjggfnleolaaGreatDoor
