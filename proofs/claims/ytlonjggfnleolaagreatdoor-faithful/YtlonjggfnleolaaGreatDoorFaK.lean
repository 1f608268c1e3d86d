import Derived.Test.YtlonjggfnleolaaGreatDoorFaG
namespace Go.Proofs.YtlonjggfnleolaaGreatDoor
open Go.RowKit Go.Shelf
set_option linter.unusedVariables false
set_option maxHeartbeats 4000000
set_option maxRecDepth 100000
def SayTo (gs:List Int)(w W':World)(P X sv pt win:Nat)(css:List (List Cmd))(sd:List Nat)(st:List CliQ×List SrvQ)(D:PlD):Prop:=PlayV w W' P X sv pt win (4000*sd.sum) st D∨∃(i n:Nat) (piece r:List UInt8),sd[i]?=some n∧restOf gs css sd i=piece++r∧PlayV w W' P X sv pt win (4000*sd.sum+4000*piece.length) (saidJ sv pt win i piece st) {D with sd:=D.sd.set i (n+piece.length)}
section
variable {gs:List Int}{w W W':World}{P X sv pt win:Nat}{css:List (List Cmd)}{sd:List Nat}{st:List CliQ×List SrvQ}{D:PlD}{L:Nat→List En}{A:Nat→Nat}{Cl:Nat→Nat→Prop}
theorem PB.forms (h:PB gs w W P X sv pt win css sd st D)(hsd:D.sd.length=css.length):∃a1 c1 a2 c2 a3 c3,D.v1= .slice a1 sv c1∧sv≤c1∧D.v2= .slice a2 css.length c2∧css.length≤c2∧D.v3= .slice a3 css.length c3∧css.length≤c3:=by
 obtain⟨a1,c1,e1,f1⟩:=h.v1;obtain⟨a2,c2,e2,f2⟩:=h.v2;obtain⟨a3,c3,e3,f3,_⟩:=h.pl.rowAt (i:=2) (n:=css.length) rfl (by show(intsV D.sd).length=_;unfold intsV;rw[List.length_map];exact hsd);exact⟨a1,c1,a2,c2,a3,c3,e1,f1,e2,f2,e3,f3⟩
theorem PB.sdAt (h:PB gs w W P X sv pt win css sd st D)(hl:D.sd.length=css.length){i n:Nat}(hn:D.sd[i]?=some n):∃g c,D.v3= .slice (some ⟨g,0,none⟩) css.length c∧g<W.heap.size∧W.cell? ⟨g,i,none⟩=some (.int .i64 (n:Int)):=by
 obtain⟨g,c,e1,_,e2,e3⟩:=h.pl.cellsAt (i:=2) (n:=css.length) (j:=i) (u:= .int .i64 (n:Int)) rfl (by show(intsV D.sd).length=_;unfold intsV;rw[List.length_map];exact hl) (by show(intsV D.sd)[i]?=_;unfold intsV;rw[List.getElem?_map,hn];rfl);exact⟨g,c,e1,e2,e3⟩
theorem step_sayP (h:PB gs w W P X sv pt win css sd st D)(hsd:D.sd=sd)(x y:Int)(hx:(Lit.int .i64 x).wf=true)(hy:(Lit.int .i64 y).wf=true):Calls Tryz.prog 25 #[.pointer (some ⟨P,0,none⟩),.agg #[.int .i64 1,.int .i64 x,.int .i64 y]] W fun e w'=>e= .returned (.bool true)∧SayTo gs w w' P X sv pt win css sd st D:=by
 have hc4:=h.c4;have hsum:=h.sum;obtain⟨hs1,hs4⟩:=h.s14;obtain⟨a1,c1,a2,c2,a3,c3,e1,f1,e2,f2,e3,f3⟩:=h.forms (by rw[hsd];exact h.lsd);have HP:=hide' h;obtain⟨p0,p1,p2,p3,p5,pl⟩:=h.pl.pc;rw[e1]at p1;rw[e2]at p2;rw[e3]at p3;have HPk1:=hide' (fun W=>pick_big x sv W hx (by omega) (by omega));have hn1:=pickN_lt x sv (by omega);obtain⟨s,g1,c1',hS,ev,hgl,hgc⟩:=h.srv hn1;rw[e1]at ev;cases ev;have HE1:=hide' (And.intro e1 (And.intro e2 (And.intro e3 hS)));have hn1':((pickN x sv:Nat):Int)<(sv:Int):=by omega
 generalize pickN x sv=n1 at*;have HSD:=hide' hsd;clear e1 hS hsd p5;have HEnd:Hid (∀W',Below W.heap.size W W'→SayTo gs w W' P X sv pt win css sd st D):=fun W' hb=> .inl (HP.out.pl.below hb)
 by_cases h0:css.length=0
 ·rw[h0]at p2;clear HP HE1 h e2 e3;go_enter Tryz.func25,Tryz.ntmps25;go_wp2_with fail
  go_quiet ((go_at_call 17;exact Calls.quiet_of_same (HPk1.out _)))
  go_wp2_with fail
  go_ret;exact⟨rfl,HEnd.out _ (by repeat(first|with_reducible exact Below.refl _ _|with_reducible refine Below.drew ?_|with_reducible refine below_drewN ?_ _|with_reducible refine Below.alloc ?_ (Nat.le_refl _) _))⟩
 ·have hz:((css.length:Int)==0)=false:=by rw[beq_eq_false_iff_ne];omega
  have HPk2:=hide' (fun W=>pick_big x css.length W hx (by omega) (by omega));have hi:=pickN_lt x css.length (by omega);have hi':((pickN x css.length:Nat):Int)<(css.length:Int):=by omega
  generalize pickN x css.length=i at*;obtain⟨g2,c2',ev2,hg2l,hg2c⟩:=h.cli hi;rw[e2]at ev2;cases ev2;obtain⟨n,hn⟩:∃n,sd[i]?=some n:=⟨_,List.getElem?_eq_getElem (by rw[HP.out.lsd];exact hi)⟩
  obtain⟨g3,c3',ev3,hg3l,hg3c⟩:=h.sdAt (by rw[HSD.out];exact HP.out.lsd) (i:=i) (n:=n) (by rw[HSD.out];exact hn);rw[e3]at ev3;cases ev3;have hnle:=h.sle i n hn;have htl:=HP.out.said.size' i;have hTs:(mkB (txI gs css i)).size=(txI gs css i).length:=mk_size _;obtain⟨s0,hs0⟩:∃s,st.1[i]?=some s:=⟨_,List.getElem?_eq_getElem (by rw[HP.out.cl];exact hi)⟩
  have hex:(mkB (txI gs css i)).extract n (mkB (txI gs css i)).size=mkB ((txI gs css i).drop n):=mk_drop _ _;have hex2:((mkB (txI gs css i)).extract n (mkB (txI gs css i)).size).size=(txI gs css i).length-n:=by rw[hex,mk_size,List.length_drop]
  have HHn:=hide' (And.intro hn (And.intro hs0 (And.intro hex (And.intro hTs (And.intro hex2 (And.intro hnle htl))))));have hnT:(n:Int)≤((mkB (txI gs css i)).size:Int):=by omega
  have hnT2:n≤(mkB (txI gs css i)).size:=by omega
  have hTb:(mkB (txI gs css i)).size≤15000:=by omega
  have HN3:=hide' (And.intro e2 e3);have hex3:((mkB (txI gs css i)).extract n (mkB (txI gs css i)).size).size≤15000:=by omega
  clear h e2 e3 hn hs0 hex hTs hex2 hnle htl;generalize hTT:mkB (txI gs css i)=T at*;have HTT:=hide' hTT;clear hTT;have HF:Hid (∀W2,Below W.heap.size W W2→W2.cell? ⟨W.heap.size,0,none⟩=some (.int .i64 1)→W2.cell? ⟨W.heap.size,1,none⟩=some (.int .i64 x)→W2.cell? ⟨W.heap.size,2,none⟩=some (.int .i64 y)→W.heap.size<W2.heap.size→∀W',Below W2.heap.size W2 W'→(W'.cell? ⟨P,0,none⟩=some (.pointer (some ⟨X,0,none⟩))∧W'.cell? ⟨P,1,none⟩=some (.slice (some ⟨g1,0,none⟩) sv c1)∧W'.cell? ⟨P,2,none⟩=some (.slice (some ⟨g2,0,none⟩) css.length c2)∧W'.cell? ⟨P,3,none⟩=some (.slice (some ⟨g3,0,none⟩) css.length c3)∧W'.cell? ⟨g1,n1,none⟩=some (.pointer (some ⟨s.b,0,none⟩))∧W'.cell? ⟨g2,i,none⟩=some (.string T)∧W'.cell? ⟨g3,i,none⟩=some (.int .i64 (n:Int)))∧(W'.cell? ⟨W.heap.size,0,none⟩=some (.int .i64 1)∧W'.cell? ⟨W.heap.size,1,none⟩=some (.int .i64 x)∧W'.cell? ⟨W.heap.size,2,none⟩=some (.int .i64 y))∧W.heap.size<W'.heap.size∧Below W.heap.size W W'):=fun W2 hb q0 q1 q2 hl W' hb2=>by
   have hb3:Below W.heap.size W W':=hb.trans (hb2.mono hb.size);exact⟨⟨(hb3.cell (p:=⟨P,_,none⟩) pl).trans p0,(hb3.cell (p:=⟨P,_,none⟩) pl).trans p1,(hb3.cell (p:=⟨P,_,none⟩) pl).trans p2,(hb3.cell (p:=⟨P,_,none⟩) pl).trans p3,(hb3.cell (p:=⟨g1,_,none⟩) hgl).trans hgc,(hb3.cell (p:=⟨g2,_,none⟩) hg2l).trans hg2c,(hb3.cell (p:=⟨g3,_,none⟩) hg3l).trans hg3c⟩,⟨(hb2.cell (p:=⟨W.heap.size,_,none⟩) hl).trans q0,(hb2.cell (p:=⟨W.heap.size,_,none⟩) hl).trans q1,(hb2.cell (p:=⟨W.heap.size,_,none⟩) hl).trans q2⟩,Nat.lt_of_lt_of_le hl hb2.size,hb3⟩
  go_enter Tryz.func25,Tryz.ntmps25;go_wp2_with fail
  go_quiet ((go_at_call 17;exact Calls.quiet_of_same (HPk1.out _)))
  have HF2:=hide' (HF.out ((W.alloc (.cells #[.int .i64 1,.int .i64 x,.int .i64 y] 52)).drewN nq) (below_drewN ((Below.refl _ _).alloc (Nat.le_refl _) _) _) (by simp) (by simp) (by simp) (by show W.heap.size<(W.alloc _).heap.size;simp));generalize hW2:(W.alloc (.cells #[.int .i64 1,.int .i64 x,.int .i64 y] 52)).drewN nq=W2 at*;have HBs:Hid (P<W.heap.size∧g1<W.heap.size∧g2<W.heap.size∧g3<W.heap.size):=⟨pl,hgl,hg2l,hg3l⟩
  clear HF hW2 p0 p1 p2 p3 hgc hg2c hg3c pl hgl hg2l hg3l;obtain⟨⟨p0,p1,p2,p3,hgc,hg2c,hg3c⟩,⟨q0,q1,q2⟩,hlB,hbW⟩:=HF2.out W2 (Below.refl _ _);have HBW:=hide' hbW;clear hbW;have pl:P<W2.heap.size:=by have:=HBs.out;omega
  have hgl:g1<W2.heap.size:=by have:=HBs.out;omega
  have hg2l:g2<W2.heap.size:=by have:=HBs.out;omega
  have hg3l:g3<W2.heap.size:=by have:=HBs.out;omega
  generalize hBB:W.heap.size=B at*;go_wp2_with fail
  go_quiet ((go_at_call 17;exact Calls.quiet_of_same (HPk2.out _)))
  have hb3:Below W2.heap.size W2 (W2.drewN nq):=below_drewN (Below.refl _ _) _;generalize W2.drewN nq=W3 at*;have HB3:=hide' hb3;clear p0 p1 p2 p3 hgc hg2c hg3c q0 q1 q2 HBW hlB;obtain⟨⟨p0,p1,p2,p3,hgc,hg2c,hg3c⟩,⟨q0,q1,q2⟩,hlB,hbW⟩:=HF2.out W3 HB3.out;clear hbW;have hsz3:=hb3.size;clear hb3;replace pl:P<W3.heap.size:=by omega
  replace hgl:g1<W3.heap.size:=by omega
  replace hg2l:g2<W3.heap.size:=by omega
  replace hg3l:g3<W3.heap.size:=by omega
  clear hsz3;go_wp2_with fail
  go_quiet (fail)
  have hb4:Below W2.heap.size W2 (W3.drewN nq):=below_drewN HB3.out _;generalize W3.drewN nq=W4 at*;clear p0 p1 p2 p3 hgc hg2c hg3c q0 q1 q2 HB3 hlB pl hgl hg2l hg3l;obtain⟨⟨p0,p1,p2,p3,hgc,hg2c,hg3c⟩,⟨q0,q1,q2⟩,hlB,hbW⟩:=HF2.out W4 hb4;clear hb4;have hsz4:=hbW.size;have HP4:=hide' (HP.out.below (hBB▸hbW));have HE4:=hide' (HEnd.out W4 hbW);clear hbW HF2;have pl:P<W4.heap.size:=by have:=HBs.out;omega
  clear hgc hg2c hg3c p1 p2 p3;generalize hte:T.extract n T.size=t at*;have HTe:=hide' hte;clear hte;by_cases hm:t.size=0
  ·have hm':¬(0:Int)<(t.size:Int):=by omega
   go_wp2_with fail
   go_ret;exact⟨rfl,HE4.out⟩
  ·have hm':(0:Int)<(t.size:Int):=by omega
   have HPk3:=hide' (pick_big y t.size W4 hy (by omega) (by omega));have hk:=pickN_lt y t.size (by omega);generalize pickN y t.size=k at*;have hk1:(1:Int)+(k:Int)≤(t.size:Int):=by omega
   have hk0:(0:Int)≤1+(k:Int):=by omega
   have hkw:IntKind.i64.wrap (1+(k:Int))=1+(k:Int):=wrap_small _ (by omega) (by omega);go_wp2_with fail
   go_at_call 17;refine HPk3.out.mono ?_;rintro e w1 ⟨rfl,hw1⟩;subst hw1;go_wp2_with fail
   have hsy:Calls Tryz.prog 28 #[.pointer (some ⟨X,0,none⟩),.int .i64 (i:Int),.string (t.extract 0 (1+k))] w1.drew fun e w'=>e= .returned (.int .i64 0)∧PlayV w w' P X sv pt win (4000*sd.sum+4000*(t.extract 0 (1+k)).size) (saidJ sv pt win i (t.extract 0 (1+k)).data.toList st) D:=PlayV.callSay (HP4.out.below (Below.refl _ _).drew).pl HHn.out.2.1 (t.extract 0 (1+k)) (by
    have h1:(t.extract 0 (1+k)).size≤15000:=by simp;omega
    omega)
   have HSy:=hide' hsy;clear hsy HPk3 HEnd HE4 q0 q1 q2;go_region_held3 (fun W'=>W'.cell? ⟨P,0,none⟩=some (.pointer (some ⟨X,0,none⟩))) (go_keep) (first
    |(go_at_call 28;refine HSy.out.mono ?_;rintro e w5 ⟨rfl,h5⟩;have HPl5:=hide' h5;have p05:=h5.pc.1;clear h5)
    |fail)
   rename_i hHeld;clear hHeld p05 p0 pl HSy;have hrest:restOf gs css sd i=(t.extract 0 (1+k)).data.toList++((txI gs css i).drop n).drop (1+k):=by
    have e1:t=mkB ((txI gs css i).drop n):=HHn.out.2.2.1;have e2:(t.extract 0 (1+k)).data.toList=((txI gs css i).drop n).take (1+k):=by rw[e1,mk_take];simp[mkB]
    unfold restOf;rw[HHn.out.1,e2];exact(List.take_append_drop _ _).symm
   have hpl:(t.extract 0 (1+k)).data.toList.length=1+k:=by rw[len_size'];simp;omega
   have hpz:(t.extract 0 (1+k)).size=1+k:=by simp;omega
   have h5:=HPl5.out;rw[hpz]at h5;have hdl:D.sd.length=css.length:=by rw[HSD.out];exact HP4.out.lsd
   obtain⟨z1,z2⟩:=h5.putSd (g:=g3) (n:=css.length) (c:=c3) (i:=i) (m:=n+(1+k)) HN3.out.2 hdl hi;have HE7:Hid (SayTo gs w (w5.setCell ⟨g3,i,none⟩ (.int .i64 ((n:Int)+(1+(k:Int))))).drew P X sv pt win css sd st D):=by
    rw[show(n:Int)+(1+(k:Int))=((n+(1+k):Nat):Int)by omega];refine .inr ⟨i,n,_,_,HHn.out.1,hrest,?_⟩;rw[hpl];exact z1.below (Below.refl _ _).drew
   obtain⟨_,_,_,p3,_,pl⟩:=h5.pc;rw[HN3.out.2]at p3;obtain⟨g3',c3',ev3,_,hg3l,hg3c⟩:=h5.cellsAt (i:=2) (n:=css.length) (j:=i) (u:= .int .i64 (n:Int)) rfl (by show(intsV D.sd).length=_;unfold intsV;rw[List.length_map];exact hdl) (by show(intsV D.sd)[i]?=_;unfold intsV;rw[List.getElem?_map,HSD.out,HHn.out.1];rfl);change D.v3=_ at ev3;rw[HN3.out.2]at ev3;cases ev3;have hnb:n≤15000:=by omega
   have hkb:k<15000:=by omega
   have hwn:IntKind.i64.wrap ((n:Int)+(1+(k:Int)))=(n:Int)+(1+(k:Int)):=wrap_small _ (by omega) (by omega);clear h5 z1 hrest hpl hpz HPl5 HP4 HP hdl HHn HN3 HE1 HSD HPk1 HPk2 hk1 hkw hm hm' hk hex3;go_wp2_with fail
   go_big_region
   go_wp2_with fail
   go_ret;exact⟨rfl,HE7.out⟩
theorem FaSt.sayTo (h:FaSt gs w W P X sv pt win css sd st D L A Cl)(hds:D.sd=sd)(k:SayTo gs w W' P X sv pt win css sd st D):FaTo gs w W' P X sv pt win css:=by
 rcases k with k|⟨i,n,piece,r,h1,h2,k⟩
 ·exact⟨_,_,_,_,_,_,h.to k,hds⟩
 ·obtain⟨L',A',a⟩:=h.said h1 h2 k rfl rfl rfl rfl;exact⟨_,_,_,_,_,_,a,by show D.sd.set i _=_;rw[hds]⟩
theorem step_otherF (h:FaSt gs w W P X sv pt win css sd st D L A Cl)(hds:D.sd=sd)(kd x y:Int)(hx:(Lit.int .i64 x).wf=true)(h1:kd≠1)(h2:kd≠2)(h3:kd≠3)(h4:kd≠4):Calls Tryz.prog 25 #[.pointer (some ⟨P,0,none⟩),.agg #[.int .i64 kd,.int .i64 x,.int .i64 y]] W fun e w'=>e= .returned (.bool true)∧FaTo gs w w' P X sv pt win css:=by
 obtain⟨hs1,hs4⟩:=h.pb.s14;obtain⟨g1,c1,g6,c6,e1,e6,f1,f6⟩:=h.frm;have HPk:=hide' (fun W=>pick_big x sv W hx (by omega) (by omega));have hn1:=pickN_lt x sv (by omega);generalize pickN x sv=n1 at*;have hn1':(n1:Int)<(sv:Int):=by omega
 obtain⟨u,s,b,rj,js,pn,hu,hup,hS,hB,hF⟩:=h.at_ hn1;obtain⟨⟨p0,p1,p6,k1,k6,k2⟩,pl,l1,l6,lb⟩:=h.cel hn1 hS hB e1 e6;have HH:=hide' h;have HDs:=hide' hds;clear hds;have HX:=hide' (And.intro hu (And.intro hS (And.intro hB (And.intro hF (And.intro e1 e6)))));have b1:(kd==1)=false:=by rw[beq_eq_false_iff_ne];exact h1
 have b2:(kd==2)=false:=by rw[beq_eq_false_iff_ne];exact h2
 have b3:(kd==3)=false:=by rw[beq_eq_false_iff_ne];exact h3
 have b4:(kd==4)=false:=by rw[beq_eq_false_iff_ne];exact h4
 clear h hu hS hB hF e1 e6 p6 k6 k2 l6 lb h1 h2 h3 h4;go_enter Tryz.func25,Tryz.ntmps25;go_wp2_with fail
 go_quiet ((go_at_call 17;exact Calls.quiet_of_same (HPk.out _)))
 have hbW:Below W.heap.size W ((W.alloc (.cells #[.int .i64 kd,.int .i64 x,.int .i64 y] 52)).drewN nq):=below_drewN ((Below.refl _ _).alloc (Nat.le_refl _) _) _;have q0:((W.alloc (.cells #[.int .i64 kd,.int .i64 x,.int .i64 y] 52)).drewN nq).cell? ⟨W.heap.size,0,none⟩=some (.int .i64 kd):=by simp
 have ql:W.heap.size<((W.alloc (.cells #[.int .i64 kd,.int .i64 x,.int .i64 y] 52)).drewN nq).heap.size:=by show W.heap.size<(W.alloc _).heap.size;simp
 generalize (W.alloc (.cells #[.int .i64 kd,.int .i64 x,.int .i64 y] 52)).drewN nq=W2 at*;have HH2:=hide' (HH.out.below hbW);clear hbW HH HPk p0 p1 k1 pl l1;obtain⟨⟨p0,p1,_,k1,_,_⟩,pl,l1,_,_⟩:=HH2.out.cel hn1 HX.out.2.1 HX.out.2.2.1 HX.out.2.2.2.2.1 HX.out.2.2.2.2.2;generalize W.heap.size=B at*;go_wp2_with fail
 go_ret;exact⟨rfl,⟨_,_,_,_,_,_,HH2.out,HDs.out⟩⟩
theorem step_fa (h:FaTo gs w W P X sv pt win css)(kd x y:Int)(hx:(Lit.int .i64 x).wf=true)(hy:(Lit.int .i64 y).wf=true):Calls Tryz.prog 25 #[.pointer (some ⟨P,0,none⟩),.agg #[.int .i64 kd,.int .i64 x,.int .i64 y]] W fun e w'=>e= .returned (.bool true)∧FaTo gs w w' P X sv pt win css:=by
 obtain⟨sd,st,D,L,A,Cl,h,hds⟩:=h;have hs1:=h.pb.s14;have hn:=pickN_lt x sv (by omega);have an:∀{n rj m sb:Nat} {W':World},AnTo gs w W' P X sv pt win css sd st D L A Cl n rj m sb→FaTo gs w W' P X sv pt win css:=fun⟨D',st',L',A',Cl',_,_,_,_,_,a,_,_,_,_,_,_,_,_,_,_,e⟩=>⟨_,_,_,_,_,_,a,e.trans hds⟩
 by_cases h1:kd=1
 ·subst h1;refine(step_sayP h.pb hds x y hx hy).mono ?_;rintro e w' ⟨rfl,k⟩;exact⟨rfl,h.sayTo hds k⟩
 by_cases h2:kd=2
 ·subst h2;refine(step_work h x y hx).mono ?_;rintro e w' ⟨rfl,_,_,_,_,_,k,_⟩;exact⟨rfl,_,_,_,_,_,_,k,hds⟩
 obtain⟨u,s,b,rj,js,pn,hu,hup,hS,hB,hF⟩:=h.at_ hn;by_cases h3:kd=3
 ·subst h3;cases pn with
  |some j=>
   refine(step_fin3 h x y hx hn hu hup hS hB hF).mono ?_;rintro e w' ⟨rfl,k⟩;exact⟨rfl,an k⟩
  |none=>
   by_cases hj:js=[]
   ·subst hj;refine(step_idle3 h x y hx hn hu hup hS hB hF).mono ?_;rintro e w' ⟨rfl,k⟩;exact⟨rfl,_,_,_,_,_,_,k,hds⟩
   ·refine(step_take3 h x y hx hy hn hu hup hS hB hF hj).mono ?_;rintro e w' ⟨rfl,k⟩;exact⟨rfl,an k⟩
 by_cases h4:kd=4
 ·subst h4;cases pn with
  |some j=>
   refine(step_fin4 h x y hx hn hu hup hS hB hF).mono ?_;rintro e w' ⟨rfl,k⟩;exact⟨rfl,an k⟩
  |none=>
   by_cases hj:js=[]
   ·subst hj;refine(step_idle4 h x y hx hn hu hup hS hB hF).mono ?_;rintro e w' ⟨rfl,k⟩;exact⟨rfl,_,_,_,_,_,_,k,hds⟩
   ·exact step_take4 h hds x y hx hy hn hu hup hS hB hF hj
 exact step_otherF h hds kd x y hx h1 h2 h3 h4
end
variable {i n sb:Nat}{s:CliQ}{A A':Nat→Nat}{u:SrvQ}{b:Bool}{v1 v6:Value}
theorem open_part {x:QS}(h:x.n≠0):∃(m:Nat) (p:PS),x.ps[m]?=some p∧(p= .un∨∃o id,p= .op o id):=by
 unfold QS.n at h;obtain⟨p,hp,ho⟩:∃p∈x.ps,PS.opn p=true:=by
  refine Classical.byContradiction fun hn=>h (List.countP_eq_zero.2 (fun p hp ho=>hn ⟨p,hp,ho⟩))
 obtain⟨m,hm⟩:=List.mem_iff_getElem?.1 hp;refine⟨m,p,hm,?_⟩;cases p using PS.el with
 |un=>exact .inl rfl
 |op o id=>exact .inr ⟨o,id,rfl⟩
 |an _ _=>cases ho
 |fl=>cases ho
section
variable {q:PlyL}{sv pt win:Nat}{rest rest':Nat→List UInt8}{Cl Cl':Nat→Nat→Prop}{st st':List CliQ×List SrvQ}{L L':Nat→List En}{A A':Nat→Nat}
theorem JI.headOpen (h:JI q sv pt win rest (fun _=>True) Cl st L A)(hs:st.1[i]?=some s)(hq:s.qs≠[]):∃o id e,(L o)[id]?=some e∧e.i=i∧e.n=A i∧¬Cl o id:=by
 obtain⟨h1,h2⟩:=h.cli i s hs;obtain⟨n1,_⟩:=h2 trivial;cases hc:s.qs with
 |nil=>exact absurd hc hq
 |cons x l=>
  obtain⟨m,p,hm,hp⟩:=open_part (n1 x l hc);obtain⟨c,_,_,_,e4⟩:=h1.cm 0 x (by rw[hc];rfl);have:=e4 m p hm;rcases hp with rfl|⟨o,id,rfl⟩
  ·exact this.elim
  ·obtain⟨⟨e,a1,a2,a3,_⟩,a4⟩:=this;exact⟨o,id,e,a1,a2,a3,a4⟩
theorem JI.more_told (h:JI q sv pt win rest (fun _=>True) Cl st L A)(h':JI q sv pt win rest' (fun _=>True) Cl' st' L' A')(ad:Adv st L A st' L' A')(hcl:∀o id,id<(L o).length→Cl' o id){s':CliQ}(hs:st.1[i]?=some s)(hq:s.qs≠[])(hs':st'.1[i]?=some s'):A i<A' i:=by
 have hal:=ad.al i;refine Classical.byContradiction fun hn=>?_
 have he:A' i=A i:=by omega
 have hrl:=ad.rl i;have hl:1≤s.qs.length:=List.length_pos_iff.2 hq;rw[rdN_some hs,rdN_some hs',he]at hrl;obtain⟨o,id,e,a1,a2,a3,a4⟩:=h'.headOpen hs' (by intro e0;rw[e0]at hrl;simp at hrl;omega);by_cases hid:(L o).length≤id
 ·have:=ad.new o id e a1 hid;rw[a2,rdN_some hs,a3]at this;omega
 ·exact a4 (hcl o id (by omega))
theorem JI.allTold (hp:PlyLOk q)(h:JI q sv pt win rest (fun _=>True) Cl st L A)(hcl:∀o id,id<(L o).length→Cl o id)(hw:1≤win)(hs:st.1[i]?=some s)(hr:rest i=[]):q.P i s.told (q.cs i).length:=by
 obtain⟨h1,h2⟩:=h.cli i s hs;obtain⟨_,n2⟩:=h2 trivial;have hq:s.qs=[]:=Classical.byContradiction fun hq=>by
  obtain⟨o,id,e,a1,_,_,a4⟩:=h.headOpen hs hq;exact a4 (hcl o id (List.getElem?_eq_some_iff.1 a1).1)
 have ht:=h1.tx;have hle:=h1.le;rw[hr,List.append_nil]at ht;have n2':=n2 (by rw[hq];simp;omega);rw[hq]at ht hle;simp only[List.length_nil,Nat.add_zero]at ht hle;have ha:A i=(q.cs i).length:=by
  by_cases hlt:A i<(q.cs i).length
  ·exfalso;rw[h1.di,ht,List.drop_eq_getElem_cons hlt]at n2';have g:=hp.hg i _ (List.getElem_mem hlt);have hl:=hp.hl i;have hk:=ask_round (q.d i) (q.cs i)[A i].kind (q.cs i)[A i].keys (q.cs i)[A i].val (A i:Int) (asksFrom (q.d i) (A i+1) ((q.cs i).drop (A i+1))) (hp.hd i) (askable_of g.cmd) (fun h2=>⟨g.one h2,by omega,by omega⟩);have e:asksFrom (q.d i) (A i) ((q.cs i)[A i]::(q.cs i).drop (A i+1))=(askS (q.d i) (q.cs i)[A i].kind (q.cs i)[A i].keys (q.cs i)[A i].val (A i)).data.toList++asksFrom (q.d i) (A i+1) ((q.cs i).drop (A i+1)):=rfl;rw[e,hk]at n2';cases n2'
  ·omega
 rw[←ha];exact h1.td
end
def sumA (A:Nat→Nat):Nat→Nat
 |0=>0
 |n+1=>sumA A n+A n
theorem sumA_le (h:∀i,A i≤A' i):∀n,sumA A n≤sumA A' n:=by
 intro n;induction n with
 |zero=>exact Nat.le_refl _
 |succ n ih=>have:=h n;show sumA A n+A n≤sumA A' n+A' n;omega
theorem sumA_lt (h:∀i,A i≤A' i)(hi:A i<A' i):∀n,i<n→sumA A n+1≤sumA A' n:=by
 intro n;induction n with
 |zero=>intro h;omega
 |succ n ih=>
  intro hn;show sumA A n+A n+1≤sumA A' n+A' n;by_cases e:i=n
  ·subst e;have:=sumA_le h i;omega
  ·have:=ih (by omega);have:=h n;omega
theorem sumA_40:∀n,(∀i,i<n→A i≤40)→sumA A n≤40*n:=by
 intro n;induction n with
 |zero=>intro _;exact Nat.le_refl _
 |succ n ih=>
  intro h;have h1:=ih (fun i hi=>h i (by omega));have h2:=h n (by omega);show sumA A n+A n≤_;omega
section
variable {gs:List Int}{w W W':World}{P X sv pt win:Nat}{css:List (List Cmd)}{sd:List Nat}{st st0:List CliQ×List SrvQ}{D D0:PlD}{L L0:Nat→List En}{A A0:Nat→Nat}{Cl Cl0:Nat→Nat→Prop}
theorem FaSt.sum (h:FaSt gs w W P X sv pt win css sd st D L A Cl):sumA A css.length≤160:=by
 have h1:=sumA_40 (A:=A) css.length (fun i hi=>by
  obtain⟨s,hs⟩:=h.pb.cliQ hi;have h2:=(h.ji.cli i s hs).1.le;have h3:((plyF gs css).cs i).length≤40:=h.pb.said.short' i;omega)
 have:=h.pb.c4;omega
theorem JI.noLog {q:PlyL}{rest:Nat→List UInt8}{F:Nat→Prop}(h:JI q sv pt win rest F Cl st L A){o:Nat}(ho:¬o<sv):(L o).length=0:=by
 refine Classical.byContradiction fun hn=>?_
 obtain⟨_,e,_⟩:=h.entry (List.getElem?_eq_getElem (l:=L o) (i:=0) (by omega));have:=ownerN_lt sv pt ((L o)[0]'(by omega)).key h.s1;omega
def RdAt (gs:List Int)(w W:World)(P X sv pt win:Nat)(css:List (List Cmd))(sd:List Nat)(st0:List CliQ×List SrvQ)(L0:Nat→List En)(A0:Nat→Nat)(Cl0:Nat→Nat→Prop)(b:Bool)(n:Nat):Prop:=∃st D L A Cl,FaSt gs w W P X sv pt win css sd st D L A Cl∧Adv st0 L0 A0 st L A∧(∀o,o<n→∀id,id<(L0 o).length→Cl o id)∧(b=true→st=st0∧L=L0∧A=A0∧Cl=Cl0)∧(b=false→∃(i:Nat) (s:CliQ),st0.1[i]?=some s∧s.qs≠[])
def InAt (gs:List Int)(w W:World)(P X sv pt win:Nat)(css:List (List Cmd))(sd:List Nat)(st0:List CliQ×List SrvQ)(L0:Nat→List En)(A0:Nat→Nat)(Cl0:Nat→Nat→Prop)(b:Bool)(n sb:Nat)(v1 v6:Value)(m:Nat):Prop:=∃st D L A Cl u s bb rj js pn,FaSt gs w W P X sv pt win css sd st D L A Cl∧Adv st0 L0 A0 st L A∧(∀o,o<n→∀id,id<(L0 o).length→Cl o id)∧(b=true→st=st0∧L=L0∧A=A0∧Cl=Cl0)∧(b=false→∃(i:Nat) (s:CliQ),st0.1[i]?=some s∧s.qs≠[])∧D.v1=v1∧D.v6=v6∧st.2[n]?=some u∧u.up=true∧D.S[n]?=some s∧s.b=sb∧D.byt[n]?=some bb∧SF (L n) (Cl n) u.held s bb rj js pn∧(L0 n).length≤rj∧(js++pn.toList).length=m
theorem FaSt.upQ (h:FaSt gs w W P X sv pt win css sd st D L A Cl)(hn:n<sv)(hu:st.2[n]?=some u):u.up=true:=by
 obtain⟨v,v1,v2⟩:=h.ji.up (fun hf=>hf) n hn;rw[hu]at v1;cases v1;exact v2
theorem RdAt.begin_ (h:FaSt gs w W P X sv pt win css sd st D L A Cl):RdAt gs w W P X sv pt win css sd st L A Cl true 0:=⟨st,D,L,A,Cl,h,Adv.refl _ _ _,fun o ho=>(by omega),fun _=>⟨rfl,rfl,rfl,rfl⟩,fun h=>(by cases h)⟩
theorem RdAt.works (h:FaSt gs w W P X sv pt win css sd st D L A Cl)(hn:n<sv)(ad:Adv st0 L0 A0 st L A)(hc:∀o,o<n→∀id,id<(L0 o).length→Cl o id)(hb:b=true→st=st0∧L=L0∧A=A0∧Cl=Cl0)(hf:b=false→∃(i:Nat) (s:CliQ),st0.1[i]?=some s∧s.qs≠[])(k:WkTo gs w W' P X sv pt win css sd st D L A Cl n):∃sb m,InAt gs w W' P X sv pt win css sd st0 L0 A0 Cl0 b n sb D.v1 D.v6 m:=by
 obtain⟨s',bb,u,js,pn,a1,a2,a3,a4,a5⟩:=k;exact⟨s'.b,_,st,_,L,A,Cl,u,s',bb,_,js,pn,a1,ad,hc,hb,hf,rfl,rfl,a4,h.upQ hn a4,a2,rfl,a3,a5,ad.ext.len n,rfl⟩
theorem InAt.next {m':Nat}{s:SvG}{bb:ByteArray}{rj:Nat}{js:List Nat}{pn:Option Nat}(h:FaSt gs w W P X sv pt win css sd st D L A Cl)(hn:n<sv)(ad:Adv st0 L0 A0 st L A)(hc:∀o,o<n→∀id,id<(L0 o).length→Cl o id)(hb:b=true→st=st0∧L=L0∧A=A0∧Cl=Cl0)(hf:b=false→∃(i:Nat) (s:CliQ),st0.1[i]?=some s∧s.qs≠[])(e1:D.v1=v1)(e6:D.v6=v6)(hF:SF (L n) (Cl n) u.held s bb rj js pn)(hl:(L0 n).length≤rj)(hne:js++pn.toList≠[])(k:AnTo gs w W' P X sv pt win css sd st D L A Cl n rj m' sb):InAt gs w W' P X sv pt win css sd st0 L0 A0 Cl0 false n sb v1 v6 m':=by
 obtain⟨D',st',L',A',Cl',u',s',b',js',pn',a1,a2,a3,a4,a5,a6,a7,a8,a9,a10,a11,_⟩:=k;refine⟨st',D',L',A',Cl',u',s',b',rj,js',pn',a1,ad.trans a2,fun o ho id hid=>a3 o id (hc o ho id hid),fun e=>(by cases e),fun _=>?_,a4.trans e1,a5.trans e6,a6,a1.upQ hn a6,a7,a9,a8,a10,hl,a11⟩;cases b with
 |false=>exact hf rfl
 |true=>
  obtain⟨e0,_,_,_⟩:=hb rfl;obtain⟨id,l,hid⟩:=List.exists_cons_of_ne_nil hne;have hm:id∈js++pn.toList:=by rw[hid];simp
  have h1:=hF.lt id hm;have h2:=hF.rl;obtain⟨en,hen⟩:∃e,(L n)[id]?=some e:=⟨_,List.getElem?_eq_getElem (by omega)⟩
  obtain⟨c,x,g1,_,g3,_⟩:=h.ji.opn (fun hf=>hf) n id en hen ((hF.opn id (by omega)).2 (.inl hm));exact⟨en.i,c,by rw[←e0];exact g1,fun e=>by rw[e]at g3;simp at g3⟩
theorem InAt.done (h:InAt gs w W P X sv pt win css sd st0 L0 A0 Cl0 b n sb v1 v6 0):RdAt gs w W P X sv pt win css sd st0 L0 A0 Cl0 b (n+1):=by
 obtain⟨st,D,L,A,Cl,u,s,bb,rj,js,pn,a1,a2,a3,a4,a5,_,_,_,_,_,_,_,hF,hl,h0⟩:=h;have hnil:js++pn.toList=[]:=List.length_eq_zero_iff.1 h0;refine⟨st,D,L,A,Cl,a1,a2,fun o ho id hid=>?_,a4,a5⟩;by_cases e:o=n
 ·subst e;have h2:=a2.ext.len o;refine Classical.byContradiction fun hC=>?_
  rcases(hF.opn id (by omega)).1 hC with f|f
  ·rw[hnil]at f;cases f
  ·omega
 ·exact a3 o (by omega) id hid
theorem RdAt.quiet (h:RdAt gs w W P X sv pt win css sd st0 L0 A0 Cl0 true sv):∃D,FaSt gs w W P X sv pt win css sd st0 D L0 A0 Cl0∧∀o id,id<(L0 o).length→Cl0 o id:=by
 obtain⟨st,D,L,A,Cl,a1,a2,a3,a4,_⟩:=h;obtain⟨e1,e2,e3,e4⟩:=a4 rfl;subst e1 e2 e3 e4;refine⟨D,a1,fun o id hid=>?_⟩;by_cases ho:o<sv
 ·exact a3 o ho id hid
 ·have:=a1.ji.noLog ho;omega
theorem RdAt.loud (h0:FaSt gs w W P X sv pt win css sd st0 D0 L0 A0 Cl0){W':World}(h:RdAt gs w W' P X sv pt win css sd st0 L0 A0 Cl0 false sv):∃st D L A Cl,FaSt gs w W' P X sv pt win css sd st D L A Cl∧sumA A0 css.length+1≤sumA A css.length:=by
 obtain⟨st,D,L,A,Cl,a1,a2,a3,_,a5⟩:=h;obtain⟨i,s,hs,hq⟩:=a5 rfl;have hi:i<css.length:=by rw[←h0.pb.cl];exact(List.getElem?_eq_some_iff.1 hs).1
 obtain⟨s',hs'⟩:=a1.pb.cliQ hi;have hlt:=h0.ji.more_told a1.ji a2 (fun o id hid=>by
  by_cases ho:o<sv
  ·exact a3 o ho id hid
  ·have:=h0.ji.noLog ho;omega) hs hq hs'
 exact⟨st,D,L,A,Cl,a1,sumA_lt a2.al hlt css.length hi⟩
end
set_option maxHeartbeats 8000000
set_option maxRecDepth 100000
variable {n:Nat}
theorem pickN_n {sv:Nat}(h:n<sv):pickN (n:Int) sv=n:=by
 unfold pickN;rw[if_neg (by omega),Int.emod_eq_of_lt (by omega) (by omega)];rfl
theorem wf_n (h:n<4):(Lit.int .i64 (n:Int)).wf=true:=by
 have:n=0∨n=1∨n=2∨n=3:=by omega
 rcases this with rfl|rfl|rfl|rfl<;>rfl
def inM (W:World)(sb g6 n:Nat):Nat:=(match W.cell? ⟨sb,2,none⟩with
 |some (.slice _ k _)=>k
 |_=>0)+(match W.cell? ⟨g6,n,none⟩with
 |some (.string b)=>min b.size 1
 |_=>0)
section
variable {gs:List Int}{w W W':World}{P X sv pt win:Nat}{css:List (List Cmd)}{sd:List Nat}{st st0:List CliQ×List SrvQ}{D D0:PlD}{L L0:Nat→List En}{A A0:Nat→Nat}{Cl Cl0:Nat→Nat→Prop}
theorem FaSt.meas (h:FaSt gs w W P X sv pt win css sd st D L A Cl){u:SrvQ}{s:SvG}{bb:ByteArray}{rj:Nat}{js:List Nat}{pn:Option Nat}(hn:n<sv)(hS:D.S[n]?=some s)(hB:D.byt[n]?=some bb)(hF:SF (L n) (Cl n) u.held s bb rj js pn){g6 c6:Nat}(e6:D.v6= .slice (some ⟨g6,0,none⟩) sv c6):inM W s.b g6 n=(js++pn.toList).length:=by
 obtain⟨g1,c1,g6',c6',e1,e6',_,_⟩:=h.frm;rw[e6]at e6';cases e6';obtain⟨⟨_,_,_,_,k6,k2⟩,_⟩:=h.cel hn hS hB e1 e6;obtain⟨ma,mc,em,_,_⟩:=row_sl (h.svk hS).rM;unfold inM;rw[k6,k2,em,hF.made,List.length_map,List.length_append];simp only
 cases pn with
 |none=>rw[(hF.non rfl).2];rfl
 |some j=>have:=(hF.som j rfl).2;simp;omega
def DrTo (gs:List Int)(w W':World)(P X sv pt win:Nat)(css:List (List Cmd))(sd:List Nat):Prop:=∃st D L A Cl,FaSt gs w W' P X sv pt win css sd st D L A Cl∧∀o id,id<(L o).length→Cl o id
def DrAt (gs:List Int)(w W':World)(P X sv pt win:Nat)(css:List (List Cmd))(sd:List Nat)(r:Nat):Prop:=∃st D L A Cl,FaSt gs w W' P X sv pt win css sd st D L A Cl∧r≤sumA A css.length
theorem drains_any (h:FaSt gs w W P X sv pt win css sd st D L A Cl):Calls Tryz.prog 29 #[.pointer (some ⟨P,0,none⟩)] W fun e w'=>e= .returned (.bool true)∧DrTo gs w w' P X sv pt win css sd:=by
 obtain⟨hs1,hs4⟩:=h.pb.s14;have HR0:Hid (DrAt gs w W P X sv pt win css sd 0):=⟨_,_,_,_,_,h,Nat.zero_le _⟩
 clear h;go_enter Tryz.func29,Tryz.ntmps29;go_wp2_with fail
 go_loopw [3,4,5,6] (fun i _ _ _ wr=>∃r:Nat,i= .int .i64 (r:Int)∧Hid (DrAt gs w wr P X sv pt win css sd r)) (fun i _ _ _ _=>400-(intOf i).toNat)
 case atStart=>exact⟨0,rfl,HR0⟩
 case round=>
  obtain⟨r,rfl,HD⟩:=hrel;clear HR0;obtain⟨st0,D0,L0,A0,Cl0,h0,hr⟩:=HD.out;have hr160:r≤160:=Nat.le_trans hr h0.sum;have hr':(r:Int)<400:=by omega
  have HH0:=hide' (And.intro h0 hr);have HRd:Hid (RdAt gs w wr P X sv pt win css sd st0 L0 A0 Cl0 true 0):=RdAt.begin_ h0;clear HD h0 hr;generalize wr=W0 at*;go_wp2_with fail
  go_loopw [4,5,6] (fun q nn _ wr=>∃(b:Bool) (n:Nat),q= .bool b∧nn= .int .i64 (n:Int)∧n≤sv∧Hid (RdAt gs w wr P X sv pt win css sd st0 L0 A0 Cl0 b n)) (fun _ nn _ _=>sv-(intOf nn).toNat)
  case atStart=>exact⟨true,0,rfl,rfl,Nat.zero_le _,HRd⟩
  case round=>
   obtain⟨b,n,rfl,rfl,hn,HR⟩:=hrel;clear HRd;by_cases hlt:n<sv
   ·have hlt':(n:Int)<(sv:Int):=by omega
    obtain⟨st,D,L,A,Cl,h1,h2,h3,h4,h5⟩:=HR.out;obtain⟨g1,c1,g6,c6,e1,e6,f1,f6⟩:=h1.frm;obtain⟨p0,p1,_,_,_,pl⟩:=h1.pb.pl.pc;rw[e1]at p1;have hSt:=step_work h1 (n:Int) 0 (wf_n (by omega));rw[pickN_n hlt]at hSt;have HSt:=hide' hSt;have HW8:Hid (∀W',WkTo gs w W' P X sv pt win css sd st D L A Cl n→∃sb m,InAt gs w W' P X sv pt win css sd st0 L0 A0 Cl0 b n sb (.slice (some ⟨g1,0,none⟩) sv c1) (.slice (some ⟨g6,0,none⟩) sv c6) m):=fun W' k=>by
     have:=RdAt.works h1 hlt h2 h3 h4 h5 k;rw[e1,e6]at this;exact this
    clear h1 h2 h3 h4 h5 e1 e6 hSt HR;go_wp2_with fail
    go_at_call 25;refine HSt.out.mono ?_;rintro e w5 ⟨rfl,h5⟩;obtain⟨sb,m,hin⟩:=HW8.out w5 h5;have HIn:=hide' hin;clear h5 hin HSt HW8 p0 p1 pl;go_wp2_with fail
    go_loopw [4,6] (fun q _ wr=>∃(b:Bool) (m:Nat),q= .bool b∧Hid (InAt gs w wr P X sv pt win css sd st0 L0 A0 Cl0 b n sb (.slice (some ⟨g1,0,none⟩) sv c1) (.slice (some ⟨g6,0,none⟩) sv c6) m)) (fun _ _ wr=>inM wr sb g6 n)
    case atStart=>exact⟨b,m,rfl,HIn⟩
    case round=>
     obtain⟨b2,m2,rfl,HI⟩:=hrel;clear HIn;obtain⟨st1,D1,L1,A1,Cl1,u,s,bb,rj,js,pn,k1,k2,k3,k4,k5,k6,k7,k8,k9,k10,k11,k12,k13,k14,k15⟩:=HI.out;subst k11;have HMe:=hide' (k1.meas hlt k10 k12 k13 k7);obtain⟨⟨p0,p1,p6,q1,q6,q2⟩,pl,l1,l6,lb⟩:=k1.cel hlt k10 k12 k6 k7;obtain⟨ma,mc,em,hmc,_⟩:=row_sl (k1.svk k10).rM;have hml:s.made.length=js.length:=by rw[k13.made,List.length_map]
     rw[hml]at em hmc;rw[em]at q2;have HNx:Hid (∀(W':World) (m':Nat),js++pn.toList≠[]→AnTo gs w W' P X sv pt win css sd st1 D1 L1 A1 Cl1 n rj m' s.b→InAt gs w W' P X sv pt win css sd st0 L0 A0 Cl0 false n s.b (.slice (some ⟨g1,0,none⟩) sv c1) (.slice (some ⟨g6,0,none⟩) sv c6) m'∧inM W' s.b g6 n=m'):=fun W' m' hne k=>by
      have hi:=InAt.next k1 hlt k2 k3 k4 k5 k6 k7 k13 k14 hne k;refine⟨hi,?_⟩;obtain⟨_,_,_,_,_,_,_,_,_,_,_,j1,_,_,_,_,_,j7,_,_,j10,j11,j12,j13,_,j15⟩:=hi;rw[←j11,j1.meas hlt j10 j12 j13 j7,j15]
     by_cases hz:js++pn.toList=[]
     ·have HDn:Hid (RdAt gs w wr P X sv pt win css sd st0 L0 A0 Cl0 b2 (n+1)):=by
       have h0:m2=0:=by rw[←k15,hz];rfl
       subst h0;exact HI.out.done
      have hj0:js=[]:=(List.append_eq_nil_iff.1 hz).1;have hp0:pn=none:=by cases pn with|none=>rfl|some j=>simp at hz
      have hb0:bb=⟨#[]⟩:=(k13.non hp0).2;rw[hb0]at q6;rw[hj0]at q2;simp only[List.length_nil]at q2;clear k1 k2 k3 k4 k5 k6 k7 k8 k9 k10 k12 k13 k14 k15 em hmc hml hz HI HNx HMe hj0 hp0 hb0;go_wp2_with fail
      go_roundw;case rel=>exact⟨b2,n+1,rfl,by go_num,by omega,HDn⟩
      case measure=>simp[intOf];omega
     ·cases pn with
      |some j=>
       have hne:=emp_no (k13.som j rfl).2;have hA:=step_fin3 k1 (n:Int) (-1) (wf_n (by omega)) (by rw[pickN_n hlt];exact hlt) (by rw[pickN_n hlt];exact k8) k9 (by rw[pickN_n hlt];exact k10) (by rw[pickN_n hlt];exact k12) (by rw[pickN_n hlt];exact k13);rw[pickN_n hlt]at hA;have HA:=hide' hA;clear k1 k2 k3 k4 k5 k6 k7 k8 k9 k10 k12 k13 k14 em hml hA HI;by_cases hj:js.length=0
       ·rw[hj]at q2;go_wp2_with fail
        go_at_call 25;refine HA.out.mono ?_;rintro e w6 ⟨rfl,h6⟩;have HN6:=hide' (HNx.out w6 _ hz h6);clear h6 HNx HA p0 p1 p6 q1 q6 q2 pl l1 l6 lb;go_wp2_with fail
        go_roundw;case rel=>exact⟨false,_,rfl,HN6.out.1⟩
        case measure=>rw[HN6.out.2,HMe.out];simp
       ·have hj':(0:Int)<(js.length:Int):=by omega
        go_wp2_with fail
        go_at_call 25;refine HA.out.mono ?_;rintro e w6 ⟨rfl,h6⟩;have HN6:=hide' (HNx.out w6 _ hz h6);clear h6 HNx HA p0 p1 p6 q1 q6 q2 pl l1 l6 lb;go_wp2_with fail
        go_roundw;case rel=>exact⟨false,_,rfl,HN6.out.1⟩
        case measure=>rw[HN6.out.2,HMe.out];simp
      |none=>
       have hjn:js≠[]:=by simpa using hz
       have hj':(0:Int)<(js.length:Int):=by have:=List.length_pos_iff.2 hjn;omega
       have hA:=step_take3 k1 (n:Int) (-1) (wf_n (by omega)) (by decide) (by rw[pickN_n hlt];exact hlt) (by rw[pickN_n hlt];exact k8) k9 (by rw[pickN_n hlt];exact k10) (by rw[pickN_n hlt];exact k12) (by rw[pickN_n hlt];exact k13) hjn;rw[pickN_n hlt]at hA;have HA:=hide' hA;clear k1 k2 k3 k4 k5 k6 k7 k8 k9 k10 k12 k13 k14 em hml hA HI;go_wp2_with fail
       go_at_call 25;refine HA.out.mono ?_;rintro e w6 ⟨rfl,h6⟩;have HN6:=hide' (HNx.out w6 _ hz h6);clear h6 HNx HA p0 p1 p6 q1 q6 q2 pl l1 l6 lb;go_wp2_with fail
       go_roundw;case rel=>exact⟨false,_,rfl,HN6.out.1⟩
       case measure=>rw[HN6.out.2,HMe.out];simp;omega
   ·have hlt':¬(n:Int)<(sv:Int):=by omega
    have hns:n=sv:=by omega
    subst hns;have hcl:∃a c,wr.cell? ⟨P,1,none⟩=some (.slice a n c)∧P<wr.heap.size:=by
     obtain⟨st,D,L,A,Cl,h1,_⟩:=HR.out;obtain⟨a,c,e,_⟩:=h1.pb.v1;obtain⟨_,p1,_,_,_,pl⟩:=h1.pb.pl.pc;rw[e]at p1;exact⟨a,c,p1,pl⟩
    obtain⟨a1,c1,p1,pl⟩:=hcl;cases b with
    |true=>
     have HE:Hid (DrTo gs w wr P X n pt win css sd):=by
      obtain⟨D,k1,k2⟩:=HR.out.quiet;exact⟨_,_,_,_,_,k1,k2⟩
     clear HR HH0;go_wp2_with fail
     go_ret;exact⟨rfl,HE.out⟩
    |false=>
     have HE:Hid (DrAt gs w wr P X n pt win css sd (r+1)):=by
      obtain⟨st,D,L,A,Cl,k1,k2⟩:=RdAt.loud HH0.out.1 HR.out;have:=HH0.out.2;exact⟨st,D,L,A,Cl,k1,by omega⟩
     clear HR HH0;go_wp2_with fail
     go_roundw;case rel=>exact⟨r+1,by go_num,HE⟩
     case measure=>simp[intOf];omega
end
variable {c:Nat}
theorem alRun_app (d:Int):∀(a b:List Cmd) (i:Nat) (st:List UInt8×List (ByteArray×ByteArray)),alRun d i (a++b) st=alRun d (i+a.length) b (alRun d i a st):=by
 intro a;induction a with
 |nil=>intro b i st;rfl
 |cons c a ih=>
  intro b i st;show alRun d (i+1) (a++b) (alCmd d i c st)=_;rw[ih];simp only[List.length_cons,alRun]
  congr 1;omega
theorem alRun_pre (d:Int):∀(cs:List Cmd) (i:Nat) (st:List UInt8×List (ByteArray×ByteArray)),∃t,(alRun d i cs st).1=st.1++t:=by
 intro cs;induction cs with
 |nil=>intro i st;exact⟨[],by simp[alRun]⟩
 |cons c cs ih=>
  intro i st;obtain⟨t,ht⟩:=ih (i+1) (alCmd d i c st);show∃t,(alRun d (i+1) cs (alCmd d i c st)).1=_;rw[ht];exact⟨_,by unfold alCmd;simp only;rw[List.append_assoc]⟩
def wantI (gs:List Int)(css:List (List Cmd))(c:Nat):List UInt8:=(alRun (dOf gs c) 0 (csOf css c) ([],[])).1
section
variable {gs:List Int}{w W W':World}{P X sv pt win:Nat}{css:List (List Cmd)}{sd:List Nat}{st:List CliQ×List SrvQ}{D:PlD}{L:Nat→List En}{A:Nat→Nat}{Cl:Nat→Nat→Prop}
theorem PB.lw (h:PB gs w W P X sv pt win css sd st D):D.wnt.length=css.length:=by rw[h.wnt];simp[wntOf]
theorem PB.p4 (h:PB gs w W P X sv pt win css sd st D):W.cell? ⟨P,4,none⟩=some D.v4∧∃a c,D.v4= .slice a css.length c∧css.length≤c:=by
 have:=blkCell h.pl.blk 4;obtain⟨a,c,e,f,_⟩:=h.pl.rowAt (i:=3) (n:=css.length) rfl (by show(D.wnt.map _).length=_;rw[List.length_map];exact h.lw);exact⟨by simpa using this,a,c,e,f⟩
theorem PB.want (h:PB gs w W P X sv pt win css sd st D)(hc:c<css.length):∃g cc,D.v4= .slice (some ⟨g,0,none⟩) css.length cc∧g<W.heap.size∧W.cell? ⟨g,c,none⟩=some (.string (mkB (wantI gs css c))):=by
 have hs:D.wnt[c]?=some (mkB (wantI gs css c)):=by
  rw[h.wnt];unfold wntOf wantI;rw[List.getElem?_mapIdx,List.getElem?_eq_getElem hc,csOf_some (List.getElem?_eq_getElem hc)];rfl
 obtain⟨g,cc,e1,_,e2,e3⟩:=h.pl.cellsAt (i:=3) (n:=css.length) (j:=c) (u:= .string (mkB (wantI gs css c))) rfl (by show(D.wnt.map _).length=_;rw[List.length_map];exact h.lw) (by show(D.wnt.map _)[c]?=_;rw[List.getElem?_map,hs];rfl);exact⟨g,cc,e1,e2,e3⟩
theorem FaSt.begins (h:FaSt gs w W P X sv pt win css sd st D L A Cl){s:CliQ}(hs:st.1[c]?=some s):begB (mkB (wantI gs css c)) (mkB s.told)=true:=by
 have htd:s.told=(alRun (dOf gs c) 0 ((csOf css c).take (A c)) ([],[])).1:=(h.ji.cli c s hs).1.td;unfold begB;rw[List.isPrefixOf_iff_prefix,show(mkB s.told).data.toList=s.told by simp[mkB],show(mkB (wantI gs css c)).data.toList=wantI gs css c by simp[mkB]];obtain⟨t,ht⟩:=alRun_pre (dOf gs c) ((csOf css c).drop (A c)) (0+((csOf css c).take (A c)).length) (alRun (dOf gs c) 0 ((csOf css c).take (A c)) ([],[]));refine⟨t,?_⟩;rw[htd,←ht,←alRun_app,List.take_append_drop];rfl
theorem want_size (h:Saids gs css)(c:Nat):(wantI gs css c).length≤40000:=by
 have key:∀(cs:List Cmd) (i:Nat) (st:List UInt8×List (ByteArray×ByteArray)),(∀x∈cs,GoodC (dOf gs c) x)→Small st.2→(alRun (dOf gs c) i cs st).1.length≤st.1.length+1000*cs.length:=by
  intro cs;induction cs with
  |nil=>intro i st _ _;exact Nat.le_refl _
  |cons x cs ih=>
   intro i st hg hS;have g:=hg x (by simp);have A:=askable_of g.cmd;have ha:=al_answer g.cmd hS;have hsz:=tellS_size (id:=(i:Int)) (dOf_123 gs c) ha.1;have:=ih (i+1) (alCmd (dOf gs c) i x st) (fun y hy=>hg y (by simp[hy])) ha.2.1;show(alRun (dOf gs c) (i+1) cs (alCmd (dOf gs c) i x st)).1.length≤_;have e:(alCmd (dOf gs c) i x st).1.length=st.1.length+_:=List.length_append;rw[len_size']at e;rw[List.length_cons];omega
 have h1:=key (csOf css c) 0 ([],[]) (h.good' c) (fun p hp=>(by cases hp));have h2:=h.short' c;unfold wantI;simp at h1;omega
end
end Go.Proofs.YtlonjggfnleolaaGreatDoor
