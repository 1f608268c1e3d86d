import Derived.Test.YtlonjggfnleolaaGreatDoorFaF
namespace Go.Proofs.YtlonjggfnleolaaGreatDoor
open Go.RowKit Go.Shelf
set_option linter.unusedVariables false
set_option maxHeartbeats 8000000
set_option maxRecDepth 100000
variable {js:List Nat}{n rj k j g6 c6:Nat}{u:SrvQ}{s:SvG}{b:ByteArray}{v':Value}{W1:World}
theorem map_er {f:Nat→ByteArray}(k:Nat):(js.map f).take k++(js.map f).drop (k+1)=(js.eraseIdx k).map f:=by
 rw[List.eraseIdx_eq_take_drop_succ,List.map_append,List.map_take,List.map_drop]
theorem ext_all (t:ByteArray):t.extract 0 t.size=t:=by
 have:(t.extract 0 t.size).data.toList=t.data.toList:=by simp
 rw[←mkB_toList (t.extract 0 t.size),this,mkB_toList]
theorem ext_none (t:ByteArray):t.extract t.size t.size=⟨#[]⟩:=by
 rw[←mkB_toList (t.extract t.size t.size)];have:(t.extract t.size t.size).data.toList=[]:=by simp
 rw[this];rfl
section
variable {gs:List Int}{w W W':World}{P X sv pt win:Nat}{css:List (List Cmd)}{sd:List Nat}{st:List CliQ×List SrvQ}{D:PlD}{L:Nat→List En}{A:Nat→Nat}{Cl:Nat→Nat→Prop}
def FaTo (gs:List Int)(w W':World)(P X sv pt win:Nat)(css:List (List Cmd)):Prop:=∃sd st D L A Cl,FaSt gs w W' P X sv pt win css sd st D L A Cl∧D.sd=sd
theorem FaTo.below (h:FaTo gs w W P X sv pt win css)(hb:Below W.heap.size W W'):FaTo gs w W' P X sv pt win css:=by
 obtain⟨sd,st,D,L,A,Cl,h,hd⟩:=h;exact⟨sd,st,D,L,A,Cl,h.below hb,hd⟩
theorem AnTo.below {m sb:Nat}(h:AnTo gs w W P X sv pt win css sd st D L A Cl n rj m sb)(hb:Below W.heap.size W W'):AnTo gs w W' P X sv pt win css sd st D L A Cl n rj m sb:=by
 obtain⟨D',st',L',A',Cl',u',s',b',js',pn',h1,h2⟩:=h;exact⟨D',st',L',A',Cl',u',s',b',js',pn',h1.below hb,h2⟩
theorem FaSt.took3 (h:FaSt gs w W P X sv pt win css sd st D L A Cl)(hu:st.2[n]?=some u)(hS:D.S[n]?=some s)(hB:D.byt[n]?=some b)(hF:SF (L n) (Cl n) u.held s b rj js none)(hk:js[k]?=some j){v':Value}(k1:PlayV w W1 P X sv pt win (4000*sd.sum) (answeredJ sv pt win n ((ansE (L n) j).extract 0 (ansE (L n) j).size).data.toList st) {D with S:=D.S.set n {s with mv:=v',made:=s.made.take k++s.made.drop (k+1)}})(e6:D.v6= .slice (some ⟨g6,0,none⟩) sv c6)(hn:n<sv):AnTo gs w (W1.setCell ⟨g6,n,none⟩ (.string ((ansE (L n) j).extract (ansE (L n) j).size (ansE (L n) j).size))) P X sv pt win css sd st D L A Cl n rj (js.length-1) s.b:=by
 rw[ext_none];rw[ext_all]at k1;obtain⟨k2,_⟩:=k1.putByt (m:=noB) e6 h.bl hn;have hjm:j∈js++(none:Option Nat).toList:=by simp;exact List.mem_of_getElem? hk
 have hjr:=hF.lt j hjm;have hrl:=hF.rl;have hc:¬Cl n j:=(hF.opn j (by omega)).2 (.inl hjm);have hSl:=(List.getElem?_eq_some_iff.1 hS).1;have hBl:=(List.getElem?_eq_some_iff.1 hB).1;have hkl:=(List.getElem?_eq_some_iff.1 hk).1;have hsz:(ansE (L n) j).size≠0:=by unfold ansE;rw[ansF_size];omega
 have hcut:=hF.cut (c:=0) (k:=k) (j:=j) (s':={s with mv:=v',made:=s.made.take k++s.made.drop (k+1)}) (b':=ansE (L n) j) (held':=[]) hk (by show s.made.take k++s.made.drop (k+1)=_;rw[hF.made,map_er]) rfl rfl (by simp) hsz;obtain⟨st',L',A',Cl',u',e0,a1,a2,a3,a4,a5⟩:=h.whole hu hS hB (by omega) hc (by rw[(hF.non rfl).1];rfl) hcut k2 rfl rfl rfl rfl;refine⟨_,st',L',A',Cl',u',_,noB,js.eraseIdx k,none,a1,a2,a3,rfl,rfl,a4,List.getElem?_set_self hSl,List.getElem?_set_self hBl,rfl,a5,?_,rfl⟩;simp only[Option.toList_none,List.append_nil]
 exact List.length_eraseIdx_of_lt hkl
theorem FaSt.took4 (h:FaSt gs w W P X sv pt win css sd st D L A Cl)(hds:D.sd=sd){c:Nat}(hu:st.2[n]?=some u)(hS:D.S[n]?=some s)(hB:D.byt[n]?=some b)(hF:SF (L n) (Cl n) u.held s b rj js none)(hk:js[k]?=some j)(hc:c<(ansE (L n) j).size){v':Value}(k1:PlayV w W1 P X sv pt win (4000*sd.sum) (answeredJ sv pt win n ((ansE (L n) j).extract 0 c).data.toList st) {D with S:=D.S.set n {s with mv:=v',made:=s.made.take k++s.made.drop (k+1)}})(e6:D.v6= .slice (some ⟨g6,0,none⟩) sv c6)(hn:n<sv):FaTo gs w (W1.setCell ⟨g6,n,none⟩ (.string ((ansE (L n) j).extract c (ansE (L n) j).size))) P X sv pt win css:=by
 obtain⟨k2,_⟩:=k1.putByt (m:=(ansE (L n) j).extract c (ansE (L n) j).size) e6 h.bl hn;have hjm:j∈js++(none:Option Nat).toList:=by simp;exact List.mem_of_getElem? hk
 have hjr:=hF.lt j hjm;have hrl:=hF.rl;have hh:u.held=[]:=(hF.non rfl).1;have e1:((ansE (L n) j).extract 0 c).data.toList=(ansE (L n) j).data.toList.take c:=by simp
 have e2:((ansE (L n) j).extract c (ansE (L n) j).size).data.toList=(ansE (L n) j).data.toList.drop c:=by
  rw[ByteArray.data_extract,Array.toList_extract];unfold List.extract;rw[List.take_of_length_le (by rw[List.length_drop,len_size'];omega)]
 have hcut:=hF.cut (c:=0) (k:=k) (j:=j) (s':={s with mv:=v',made:=s.made.take k++s.made.drop (k+1)}) (b':=(ansE (L n) j).extract c (ansE (L n) j).size) (held':=u.held++((ansE (L n) j).extract 0 c).data.toList) hk (by show s.made.take k++s.made.drop (k+1)=_;rw[hF.made,map_er]) rfl rfl (by rw[hh,e1,e2];simp) (by
  rw[←len_size',e2,List.length_drop,len_size'];omega)
 obtain⟨st',a1⟩:=h.part hu hS hB (by omega) hc (by rw[hh,e1];rfl) hcut k2 rfl rfl rfl rfl;exact⟨_,_,_,_,_,_,a1,hds⟩
theorem step_take3 (h:FaSt gs w W P X sv pt win css sd st D L A Cl)(x y:Int)(hx:(Lit.int .i64 x).wf=true)(hy:(Lit.int .i64 y).wf=true)(hn1:pickN x sv<sv)(hu:st.2[pickN x sv]?=some u)(hup:u.up=true)(hS:D.S[pickN x sv]?=some s)(hB:D.byt[pickN x sv]?=some b)(hF:SF (L (pickN x sv)) (Cl (pickN x sv)) u.held s b rj js none)(hjs:js≠[]):Calls Tryz.prog 25 #[.pointer (some ⟨P,0,none⟩),.agg #[.int .i64 3,.int .i64 x,.int .i64 y]] W fun e w'=>e= .returned (.bool true)∧AnTo gs w w' P X sv pt win css sd st D L A Cl (pickN x sv) rj (js.length-1) s.b:=by
 have HFo:Hid (∀q∈s.foot,q<W.heap.size):=(h.svk hS).old;obtain⟨hs1,hs4⟩:=h.pb.s14;obtain⟨g1,c1,g6,c6,e1,e6,f1,f6⟩:=h.frm;have HPk:=hide' (fun W=>pick_big x sv W hx (by omega) (by omega));generalize pickN x sv=n1 at*;have hn1':(n1:Int)<(sv:Int):=by omega
 obtain⟨⟨p0,p1,p6,k1,k6,k2⟩,pl,l1,l6,lb⟩:=h.cel hn1 hS hB e1 e6;have hsum:=h.pb.sum;have HH:=hide' h;have HX:=hide' (And.intro hu (And.intro hS (And.intro hB (And.intro hF (And.intro e1 (And.intro e6 hup))))));clear h hu hS hB hF e1 e6 k6 k2 lb hup p6 l6;go_enter Tryz.func25,Tryz.ntmps25;go_wp2_with fail
 go_quiet ((go_at_call 17;exact Calls.quiet_of_same (HPk.out _)))
 have hbW:Below W.heap.size W ((W.alloc (.cells #[.int .i64 3,.int .i64 x,.int .i64 y] 52)).drewN nq):=below_drewN ((Below.refl _ _).alloc (Nat.le_refl _) _) _;have q0:((W.alloc (.cells #[.int .i64 3,.int .i64 x,.int .i64 y] 52)).drewN nq).cell? ⟨W.heap.size,0,none⟩=some (.int .i64 3):=by simp
 have q2:((W.alloc (.cells #[.int .i64 3,.int .i64 x,.int .i64 y] 52)).drewN nq).cell? ⟨W.heap.size,2,none⟩=some (.int .i64 y):=by simp
 have ql:W.heap.size<((W.alloc (.cells #[.int .i64 3,.int .i64 x,.int .i64 y] 52)).drewN nq).heap.size:=by show W.heap.size<(W.alloc _).heap.size;simp
 generalize (W.alloc (.cells #[.int .i64 3,.int .i64 x,.int .i64 y] 52)).drewN nq=W2 at*;have HH2:=hide' (HH.out.below hbW);clear hbW HH HPk p0 p1 k1 pl l1;obtain⟨⟨p0,p1,p6,k1,k6,k2⟩,pl,l1,l6,lb⟩:=HH2.out.cel hn1 HX.out.2.1 HX.out.2.2.1 HX.out.2.2.2.2.1 HX.out.2.2.2.2.2.1;generalize W.heap.size=B at*;have hb0:b=⟨#[]⟩:=(HX.out.2.2.2.1.non rfl).2;rw[hb0]at k6;have hml:s.made.length=js.length:=by rw[HX.out.2.2.2.1.made,List.length_map]
 have hmk1:1≤s.made.length:=by rw[hml];exact List.length_pos_iff.2 hjs
 have hmk2:s.made.length≤1000000:=by
  rw[hml];have h1:=nodup_sub js (List.range rj) (by simpa using HX.out.2.2.2.1.nd) (fun x hx=>List.mem_range.2 (HX.out.2.2.2.1.lt x (by simp[hx])));rw[List.length_range]at h1;have h2:=HX.out.2.2.2.1.rl;have h3:=(HH2.out.ji.frs (plyF_ok HH2.out.pb.said) n1).2;omega
 obtain⟨ma,mc,em,hmc,hmm⟩:=row_sl (HH2.out.svk HX.out.2.1).rM;rw[em]at k2;have HPk2:=hide' (fun W=>pick_big y s.made.length W hy (by omega) (by omega));have hk:=pickN_lt y s.made.length (by omega);generalize pickN y s.made.length=k at*;obtain⟨j,hkj⟩:∃j,js[k]?=some j:=⟨_,List.getElem?_eq_getElem (by omega)⟩
 have hkm:s.made[k]?=some (ansE (L n1) j):=by rw[HX.out.2.2.2.1.made,List.getElem?_map,hkj];rfl
 obtain⟨mg,ema,lmg,kmg⟩:=hmm k (.string (ansE (L n1) j)) (by rw[List.getElem?_map,hkm];rfl);subst ema;have hTz:(ansE (L n1) j).size≤47:=by
  unfold ansE;rw[ansF_size];have:=ansR_size (fun e he=>(HH2.out.ji.ownE HH2.out.pb.said he).2.2) (es:=L n1) j;omega
 have hTp:1≤(ansE (L n1) j).size:=by unfold ansE;rw[ansF_size];omega
 have HRow:Hid (∀W',Below W2.heap.size W2 W'→W'.ownsRow 0 9 1 (.slice (some ⟨mg,0,none⟩) s.made.length mc) s.made.length (s.made.map .string)):=fun W' hb=>by
  have hr:=(HH2.out.svk HX.out.2.1).rM;rw[em]at hr;exact ownsRow_other hr (fun g hg=>by
   obtain⟨cur,hc⟩:=ownsRow_blk hr hg;exact hb.block g (blkLt hc))
 have HKj:=hide' (And.intro hkj (And.intro hml em));have hz:((s.made.length:Int)==0)=false:=by rw[beq_eq_false_iff_ne];omega
 have HFa:Hid (∀W',Below W2.heap.size W2 W'→FaSt gs w W' P X sv pt win css sd st D L A Cl):=fun W' hb=>HH2.out.below hb
 have HBx:Hid (∀W',Below W2.heap.size W2 W'→(W'.cell? ⟨B,0,none⟩=some (.int .i64 3)∧W'.cell? ⟨B,2,none⟩=some (.int .i64 y))∧B<W'.heap.size):=fun W' hb=>⟨⟨(hb.cell (p:=⟨B,0,none⟩) ql).trans q0,(hb.cell (p:=⟨B,2,none⟩) ql).trans q2⟩,Nat.lt_of_lt_of_le ql hb.size⟩
 clear em hml hkj hkm hjs hmm hb0 hsum;generalize hT:ansE (L n1) j=T at*;have HTT:=hide' hT;clear hT;generalize hmk:s.made.length=mk at*;have HMk:=hide' hmk;clear hmk;have hk':(k:Int)<(mk:Int):=by omega
 go_wp2_with fail
 go_quiet ((go_at_call 17;exact Calls.quiet_of_same (HPk2.out _)))
 have hb3:Below W2.heap.size W2 (W2.drewN nq):=below_drewN (Below.refl _ _) _;generalize W2.drewN nq=W3 at*;have HB3:=hide' hb3;clear hb3 p0 p1 p6 k1 k6 k2 pl l1 l6 lb kmg lmg q0 q2 ql HPk2 HH2;have HH3:=hide' (HFa.out W3 HB3.out);obtain⟨⟨q0,q2⟩,ql⟩:=HBx.out W3 HB3.out;obtain⟨⟨_,_,_,_,_,k2⟩,_,_,_,lb⟩:=HH3.out.cel hn1 HX.out.2.1 HX.out.2.2.1 HX.out.2.2.2.2.1 HX.out.2.2.2.2.2.1;rw[HKj.out.2.2]at k2;have hrow:=HRow.out W3 HB3.out;obtain⟨cur,hcur⟩:=ownsRow_blk hrow rfl;have lmg:=blkLt hcur;have kmg:W3.cell? ⟨mg,k,none⟩=some (.string T):=cells_of_row hrow (by rw[List.getElem?_map,←HTT.out,HX.out.2.2.2.1.made,List.getElem?_map,HKj.out.1];rfl);have HN:Hid (∀W':World,W'.heap[mg]?=W3.heap[mg]?→∀(m i:Nat) (v:Value),(s.made.map Value.string)[m+i]?=some v→W'.cell? ((⟨mg,m,none⟩:Addr).add i)=some v):=fun W' hW m i v hv=>by
  rw[addr_add,World.cell?_of_block (a:=⟨mg,m+i,none⟩) hW];exact cells_of_row hrow hv
 have H1:Hid (∀i v,((s.made.take k).map Value.string)[i]?=some v→W3.cell? ((⟨mg,0,none⟩:Addr).add i)=some v):=fun i v hv=>by
  refine HN.out W3 rfl 0 i v ?_;rw[List.map_take,List.getElem?_take]at hv;split at hv
  ·rw[Nat.zero_add];exact hv
  ·cases hv
 have H2:Hid (∀W':World,W'.heap[mg]?=W3.heap[mg]?→∀i v,((s.made.drop (k+1)).map Value.string)[i]?=some v→W'.cell? ((⟨mg,k+1,none⟩:Addr).add i)=some v):=fun W' hW i v hv=>by
  refine HN.out W' hW _ i v ?_;rw[List.map_drop,List.getElem?_drop]at hv;exact hv
 have C1:((s.made.take k).map Value.string).length=k*1:=by rw[List.length_map,List.length_take,HMk.out];omega
 have C2:((s.made.drop (k+1)).map Value.string).length=(mk-(k+1))*1:=by rw[List.length_map,List.length_drop,HMk.out];omega
 have HO:Hid (∀(l:List ByteArray),∀u∈l.map Value.string,u.oneCell'=true):=fun l u hu=>by
  obtain⟨z,_,rfl⟩:=List.mem_map.1 hu;rfl
 have HN0:=hide' (World.ownsRow_nil W3 0 9 1);obtain⟨i9,h91,h92,h93,h94⟩:=info9s;have HI9:=hide' (And.intro h91 (And.intro h92 (And.intro h93 h94)));clear h91 h92 h93 h94;have HSK:=hide' (HH3.out.svk HX.out.2.1);have hsl:=blkLt HSK.out.blk;have HA:Hid (∀(w9:World) (va:Option Addr) (cap:Nat),w9.ownsRow 0 9 1 (.slice va (0+k) cap) (0+k) ([]++(s.made.take k).map .string)→W3.grownBy w9 (Value.slice none 0 0).ownBlock→((Value.slice va (0+k) cap).ownBlock=(Value.slice none 0 0).ownBlock∨∃g,(Value.slice va (0+k) cap).ownBlock=some g∧W3.heap.size≤g)→w9.heap[mg]?=W3.heap[mg]?∧Chg [] W3 w9∧w9.ownsRow 0 9 1 (.slice va k cap) k ((s.made.take k).map .string)∧∀b,(Value.slice va k cap).ownBlock=some b→W3.heap.size≤b):=fun w9 va cap h1 h2 h3=>by
  rw[Nat.zero_add,List.nil_append]at h1;rw[Nat.zero_add]at h3;have hk:Chg [] W3 w9:=(Chg.refl _ W3).grown h2 (fun b e=>by cases e);refine⟨hk.block mg lmg (by simp),hk,h1,fun b hb=>?_⟩;rcases h3 with e|⟨g',e,hge⟩
  ·rw[hb]at e;cases e
  ·rw[hb]at e;cases e;exact hge
 have HBt:Hid (∀(w9 w8:World) (va va':Option Addr) (cap cap':Nat),Chg [] W3 w9→(∀b,(Value.slice va k cap).ownBlock=some b→W3.heap.size≤b)→w8.ownsRow 0 9 1 (.slice va' (k+(mk-(k+1))) cap') (k+(mk-(k+1))) ((s.made.take k).map .string++(s.made.drop (k+1)).map .string)→w9.grownBy w8 (Value.slice va k cap).ownBlock→((Value.slice va' (k+(mk-(k+1))) cap').ownBlock=(Value.slice va k cap).ownBlock∨∃g,(Value.slice va' (k+(mk-(k+1))) cap').ownBlock=some g∧w9.heap.size≤g)→SvTo W3 (w8.setCell ⟨s.b,2,none⟩ (.slice va' (k+(mk-(k+1))) cap')) s {s with mv:= .slice va' (k+(mk-(k+1))) cap',made:=s.made.take k++s.made.drop (k+1)}∧w8.frozen? ⟨s.b,2,none⟩=false∧s.b<w8.heap.size∧w8.cell? ⟨s.b,2,none⟩=some s.mv):=fun w9 w8 va va' cap cap' k9 hn9 h1 h2 h3=>by
  have hk8:Chg [] W3 w8:=k9.grown h2 (fun b e=> .inr (hn9 b e));have hlen:(s.made.take k++s.made.drop (k+1)).length=k+(mk-(k+1)):=by rw[List.length_append,List.length_take,List.length_drop,HMk.out];omega
  refine HSK.out.takes hk8 ?_ (fun b hb=>?_)
  ·rw[hlen,List.map_append];exact h1
  ·rcases h3 with e|⟨g',e,hge⟩
   ·exact hn9 b (by rw[←e];exact hb)
   ·rw[hb]at e;cases e;have:=k9.size;omega
 have HSb:=hide' (And.intro HSK.out.blk hsl);clear hrow hcur HSK;go_upto_region 31 with(first
  |(at_builtin;refine wpList_append_any _ rfl _ _ _ rfl 0 9 i9 (.string ⟨#[]⟩) 1 16 Tryz.underlying34 HI9.out.1 HI9.out.2.1 HI9.out.2.2.1 HI9.out.2.2.2 rfl (by omega) none 0 0 [] rfl HN0.out ⟨mg,0,none⟩ k mc ((s.made.take k).map .string) rfl C1 H1.out (HO.out _) (by unfold maxLen;omega) (by omega) (Nat.zero_le _) ?_;intro va cap w9 hown hgr hat;have hA:=HA.out w9 va cap hown hgr hat;rw[Nat.zero_add];clear hown hgr hat)
  |fail)
 have HA9:=hide' hA;have hB9:=hA.2.1.keep HSb.out.1 (by simp);have cc9:=blkCell hB9 2;have hBl9:=blkLt hB9;simp at cc9;rw[HKj.out.2.2]at cc9;clear hA hB9 k2 lb kmg lmg q0 q2 ql hsl;go_cut [] (fun W'=>Hid (∃v',SvTo W3 W' s {s with mv:=v',made:=s.made.take k++s.made.drop (k+1)}))
 case first=>
  as_aux_lemma=>
   by_cases hci:mc=k+1
   ·have hN0:Hid (∀i v,((s.made.drop (k+1)).map Value.string)[i]?=some v→w9.cell? ((⟨mg,0,none⟩:Addr).add i)=some v):=fun i v hv=>by
     have:=(List.getElem?_eq_some_iff.1 hv).1;omega
    go_wp2_with (first
     |(at_builtin;refine wpList_append_any _ rfl _ _ _ rfl 0 9 i9 (.string ⟨#[]⟩) 1 16 Tryz.underlying34 HI9.out.1 HI9.out.2.1 HI9.out.2.2.1 HI9.out.2.2.2 rfl (by omega) va k cap ((s.made.take k).map .string) rfl HA9.out.2.2.1 ⟨mg,0,none⟩ (mk-(k+1)) (mc-(k+1)) ((s.made.drop (k+1)).map .string) (by first|rfl|(go_simp;done)) C2 hN0.out (HO.out _) (by unfold maxLen;omega) (by omega) (Nat.zero_le _) ?_;intro va' cap' w8 hown hgr hat;have hp:=HBt.out w9 w8 va va' cap cap' HA9.out.2.1 HA9.out.2.2.2 hown hgr hat;have HQ:=hide' hp.1;have cf8:=hp.2.1;have hBl8:=hp.2.2.1;have cc8:=hp.2.2.2;clear hown hgr hat hp)
     |fail)
    go_meet
    case rel=>exact⟨_,HQ.out⟩
   ·have hci':¬k+1=mc:=fun e=>hci e.symm
    go_wp2_with (first
     |(at_builtin;refine wpList_append_any _ rfl _ _ _ rfl 0 9 i9 (.string ⟨#[]⟩) 1 16 Tryz.underlying34 HI9.out.1 HI9.out.2.1 HI9.out.2.2.1 HI9.out.2.2.2 rfl (by omega) va k cap ((s.made.take k).map .string) rfl HA9.out.2.2.1 ⟨mg,k+1,none⟩ (mk-(k+1)) (mc-(k+1)) ((s.made.drop (k+1)).map .string) (by first|rfl|(go_simp;done)) C2 (H2.out w9 HA9.out.1) (HO.out _) (by unfold maxLen;omega) (by omega) (Nat.zero_le _) ?_;intro va' cap' w8 hown hgr hat;have hp:=HBt.out w9 w8 va va' cap cap' HA9.out.2.1 HA9.out.2.2.2 hown hgr hat;have HQ:=hide' hp.1;have cf8:=hp.2.1;have hBl8:=hp.2.2.1;have cc8:=hp.2.2.2;clear hown hgr hat hp)
     |fail)
    go_meet
    case rel=>exact⟨_,HQ.out⟩
 case rest=>
  as_aux_lemma=>
   obtain⟨v',hsv⟩:=hcut.out
   obtain⟨⟨q0,q2⟩,ql⟩:=HBx.out W3 HB3.out
   have hB4:wc.heap[B]?=W3.heap[B]?:=hsv.chg.block B ql (fun hm=>by have:=HFo.out B hm;omega)
   have q0:=(World.cell?_of_block (a:=⟨B,0,none⟩) hB4).trans q0
   have q2:=(World.cell?_of_block (a:=⟨B,2,none⟩) hB4).trans q2
   have ql:B<wc.heap.size:=Nat.lt_of_lt_of_le ql hsv.chg.size
   have hpl:=HH3.out.pb.pl.served HX.out.2.1 hsv
   obtain⟨p0,_,_,_,_,pl⟩:=hpl.pc
   have HPl:=hide' hpl
   have hsum:=HH3.out.pb.sum
   have hbl:=HH3.out.bl
   have hhe:u.held=[]:=(HX.out.2.2.2.1.non rfl).1
   clear hcut hsv hB4 HA9 HBt HA HN H1 H2 HN0 HO HRow HFa HBx HSb hpl cc9 hBl9 C1 C2 HI9 HB3 HFo
   generalize wc=W4 at*
   go_upto_region 32 with fail
   go_cut [18] (fun v W'=>Hid (∃c:Nat,v= .int .i64 (c:Int)∧c=T.size)∧W4=W')
   case first=>
    as_aux_lemma=>
     go_wp2_with fail
     go_meet
     case rel=>exact⟨⟨T.size,rfl,rfl⟩,rfl⟩
   case rest=>
    obtain⟨hcc,hwc⟩:=hcut;subst hwc;obtain⟨c,rfl,hcT⟩:=hcc.out;have hcT':(c:Int)≤(T.size:Int):=by omega
    have hcT2:c≤T.size:=by omega
    have HcT:=hide' hcT;clear hcT hcc;have hpz:(T.extract 0 c).size≤47:=by simp;omega
    have HC:=hide' ((HPl.out.below (Below.refl _ _).drew).callAnswer HX.out.1 HX.out.2.2.2.2.2.2 (T.extract 0 c) (by omega) (by rw[hhe];simp only[List.length_nil];omega));have HT8:Hid (∀W',PlayV w W' P X sv pt win (4000*sd.sum) (answeredJ sv pt win n1 (T.extract 0 c).data.toList st) {D with S:=D.S.set n1 {s with mv:=v',made:=s.made.take k++s.made.drop (k+1)}}→W'.cell? ⟨P,0,none⟩=some (.pointer (some ⟨X,0,none⟩))∧W'.cell? ⟨P,6,none⟩=some (.slice (some ⟨g6,0,none⟩) sv c6)∧W'.cell? ⟨g6,n1,none⟩=some (.string b)∧W'.frozen? ⟨g6,n1,none⟩=false∧g6<W'.heap.size∧P<W'.heap.size∧AnTo gs w (W'.setCell ⟨g6,n1,none⟩ (.string (T.extract c T.size))) P X sv pt win css sd st D L A Cl n1 rj (js.length-1) s.b):=fun W' k5=>by
     have r0:=k5.pc;have r6:=k5.p6;have e6:({D with S:=D.S.set n1 {s with mv:=v',made:=s.made.take k++s.made.drop (k+1)}}:PlD).v6= .slice (some ⟨g6,0,none⟩) sv c6:=HX.out.2.2.2.2.2.1;rw[e6]at r6;obtain⟨gq,cq,ev,_,hl,hc⟩:=k5.cellsAt (i:=5) (n:=sv) (j:=n1) (u:= .string b) rfl (by show(D.byt.map _).length=_;rw[List.length_map];exact hbl) (by show(D.byt.map _)[n1]?=_;rw[List.getElem?_map,HX.out.2.2.1];rfl);change D.v6=_ at ev;rw[HX.out.2.2.2.2.2.1]at ev;cases ev;refine⟨r0.1,r6,hc,(k5.putByt (m:=noB) e6 hbl hn1).2,hl,r0.2.2.2.2.2,?_⟩;rw[HcT.out]at k5⊢;rw[←HTT.out]at k5⊢;exact HH3.out.took3 HX.out.1 HX.out.2.1 HX.out.2.2.1 HX.out.2.2.2.1 HKj.out.1 k5 HX.out.2.2.2.2.2.1 hn1
    clear HPl hpz hhe;go_wp2_with fail
    go_region_held3 (fun W'=>W'.cell? ⟨P,0,none⟩=some (.pointer (some ⟨X,0,none⟩))) (go_keep) (first
     |(go_at_call 32;refine HC.out.mono ?_;rintro e W5 ⟨rfl,h8⟩;have h9:=HT8.out W5 h8;have x0:=h9.1;have HE:=hide' h9.2;clear h8 h9)
     |fail)
    rename_i hHeld;clear hHeld x0 p0 pl q0 q2 ql HC HT8;have x6:=HE.out.1;have x7:=HE.out.2.1;have xf:=HE.out.2.2.1;have xl:=HE.out.2.2.2.1;have xp:=HE.out.2.2.2.2.1;go_wp2_with fail
    go_big_region
    go_wp2_with fail
    go_ret;exact⟨rfl,HE.out.2.2.2.2.2.below (Below.refl _ _).drew⟩
theorem step_take4 (h:FaSt gs w W P X sv pt win css sd st D L A Cl)(hds:D.sd=sd)(x y:Int)(hx:(Lit.int .i64 x).wf=true)(hy:(Lit.int .i64 y).wf=true)(hn1:pickN x sv<sv)(hu:st.2[pickN x sv]?=some u)(hup:u.up=true)(hS:D.S[pickN x sv]?=some s)(hB:D.byt[pickN x sv]?=some b)(hF:SF (L (pickN x sv)) (Cl (pickN x sv)) u.held s b rj js none)(hjs:js≠[]):Calls Tryz.prog 25 #[.pointer (some ⟨P,0,none⟩),.agg #[.int .i64 4,.int .i64 x,.int .i64 y]] W fun e w'=>e= .returned (.bool true)∧FaTo gs w w' P X sv pt win css:=by
 have HDs:=hide' hds;clear hds;have HFo:Hid (∀q∈s.foot,q<W.heap.size):=(h.svk hS).old;obtain⟨hs1,hs4⟩:=h.pb.s14;obtain⟨g1,c1,g6,c6,e1,e6,f1,f6⟩:=h.frm;have HPk:=hide' (fun W=>pick_big x sv W hx (by omega) (by omega));generalize pickN x sv=n1 at*;have hn1':(n1:Int)<(sv:Int):=by omega
 obtain⟨⟨p0,p1,p6,k1,k6,k2⟩,pl,l1,l6,lb⟩:=h.cel hn1 hS hB e1 e6;have hsum:=h.pb.sum;have HH:=hide' h;have HX:=hide' (And.intro hu (And.intro hS (And.intro hB (And.intro hF (And.intro e1 (And.intro e6 hup))))));clear h hu hS hB hF e1 e6 k6 k2 lb hup p6 l6;go_enter Tryz.func25,Tryz.ntmps25;go_wp2_with fail
 go_quiet ((go_at_call 17;exact Calls.quiet_of_same (HPk.out _)))
 have hbW:Below W.heap.size W ((W.alloc (.cells #[.int .i64 4,.int .i64 x,.int .i64 y] 52)).drewN nq):=below_drewN ((Below.refl _ _).alloc (Nat.le_refl _) _) _;have q0:((W.alloc (.cells #[.int .i64 4,.int .i64 x,.int .i64 y] 52)).drewN nq).cell? ⟨W.heap.size,0,none⟩=some (.int .i64 4):=by simp
 have q2:((W.alloc (.cells #[.int .i64 4,.int .i64 x,.int .i64 y] 52)).drewN nq).cell? ⟨W.heap.size,2,none⟩=some (.int .i64 y):=by simp
 have ql:W.heap.size<((W.alloc (.cells #[.int .i64 4,.int .i64 x,.int .i64 y] 52)).drewN nq).heap.size:=by show W.heap.size<(W.alloc _).heap.size;simp
 generalize (W.alloc (.cells #[.int .i64 4,.int .i64 x,.int .i64 y] 52)).drewN nq=W2 at*;have HH2:=hide' (HH.out.below hbW);clear hbW HH HPk p0 p1 k1 pl l1;obtain⟨⟨p0,p1,p6,k1,k6,k2⟩,pl,l1,l6,lb⟩:=HH2.out.cel hn1 HX.out.2.1 HX.out.2.2.1 HX.out.2.2.2.2.1 HX.out.2.2.2.2.2.1;generalize W.heap.size=B at*;have hb0:b=⟨#[]⟩:=(HX.out.2.2.2.1.non rfl).2;rw[hb0]at k6;have hml:s.made.length=js.length:=by rw[HX.out.2.2.2.1.made,List.length_map]
 have hmk1:1≤s.made.length:=by rw[hml];exact List.length_pos_iff.2 hjs
 have hmk2:s.made.length≤1000000:=by
  rw[hml];have h1:=nodup_sub js (List.range rj) (by simpa using HX.out.2.2.2.1.nd) (fun x hx=>List.mem_range.2 (HX.out.2.2.2.1.lt x (by simp[hx])));rw[List.length_range]at h1;have h2:=HX.out.2.2.2.1.rl;have h3:=(HH2.out.ji.frs (plyF_ok HH2.out.pb.said) n1).2;omega
 obtain⟨ma,mc,em,hmc,hmm⟩:=row_sl (HH2.out.svk HX.out.2.1).rM;rw[em]at k2;have HPk2:=hide' (fun W=>pick_big y s.made.length W hy (by omega) (by omega));have hk:=pickN_lt y s.made.length (by omega);generalize pickN y s.made.length=k at*;obtain⟨j,hkj⟩:∃j,js[k]?=some j:=⟨_,List.getElem?_eq_getElem (by omega)⟩
 have hkm:s.made[k]?=some (ansE (L n1) j):=by rw[HX.out.2.2.2.1.made,List.getElem?_map,hkj];rfl
 obtain⟨mg,ema,lmg,kmg⟩:=hmm k (.string (ansE (L n1) j)) (by rw[List.getElem?_map,hkm];rfl);subst ema;have hTz:(ansE (L n1) j).size≤47:=by
  unfold ansE;rw[ansF_size];have:=ansR_size (fun e he=>(HH2.out.ji.ownE HH2.out.pb.said he).2.2) (es:=L n1) j;omega
 have hTp:1≤(ansE (L n1) j).size:=by unfold ansE;rw[ansF_size];omega
 have HRow:Hid (∀W',Below W2.heap.size W2 W'→W'.ownsRow 0 9 1 (.slice (some ⟨mg,0,none⟩) s.made.length mc) s.made.length (s.made.map .string)):=fun W' hb=>by
  have hr:=(HH2.out.svk HX.out.2.1).rM;rw[em]at hr;exact ownsRow_other hr (fun g hg=>by
   obtain⟨cur,hc⟩:=ownsRow_blk hr hg;exact hb.block g (blkLt hc))
 have HKj:=hide' (And.intro hkj (And.intro hml em));have hz:((s.made.length:Int)==0)=false:=by rw[beq_eq_false_iff_ne];omega
 have HFa:Hid (∀W',Below W2.heap.size W2 W'→FaSt gs w W' P X sv pt win css sd st D L A Cl):=fun W' hb=>HH2.out.below hb
 have HBx:Hid (∀W',Below W2.heap.size W2 W'→(W'.cell? ⟨B,0,none⟩=some (.int .i64 4)∧W'.cell? ⟨B,2,none⟩=some (.int .i64 y))∧B<W'.heap.size):=fun W' hb=>⟨⟨(hb.cell (p:=⟨B,0,none⟩) ql).trans q0,(hb.cell (p:=⟨B,2,none⟩) ql).trans q2⟩,Nat.lt_of_lt_of_le ql hb.size⟩
 clear em hml hkj hkm hjs hmm hb0 hsum;generalize hT:ansE (L n1) j=T at*;have HTT:=hide' hT;clear hT;generalize hmk:s.made.length=mk at*;have HMk:=hide' hmk;clear hmk;have hk':(k:Int)<(mk:Int):=by omega
 go_wp2_with fail
 go_quiet ((go_at_call 17;exact Calls.quiet_of_same (HPk2.out _)))
 have hb3:Below W2.heap.size W2 (W2.drewN nq):=below_drewN (Below.refl _ _) _;generalize W2.drewN nq=W3 at*;have HB3:=hide' hb3;clear hb3 p0 p1 p6 k1 k6 k2 pl l1 l6 lb kmg lmg q0 q2 ql HPk2 HH2;have HH3:=hide' (HFa.out W3 HB3.out);obtain⟨⟨q0,q2⟩,ql⟩:=HBx.out W3 HB3.out;obtain⟨⟨_,_,_,_,_,k2⟩,_,_,_,lb⟩:=HH3.out.cel hn1 HX.out.2.1 HX.out.2.2.1 HX.out.2.2.2.2.1 HX.out.2.2.2.2.2.1;rw[HKj.out.2.2]at k2;have hrow:=HRow.out W3 HB3.out;obtain⟨cur,hcur⟩:=ownsRow_blk hrow rfl;have lmg:=blkLt hcur;have kmg:W3.cell? ⟨mg,k,none⟩=some (.string T):=cells_of_row hrow (by rw[List.getElem?_map,←HTT.out,HX.out.2.2.2.1.made,List.getElem?_map,HKj.out.1];rfl);have HN:Hid (∀W':World,W'.heap[mg]?=W3.heap[mg]?→∀(m i:Nat) (v:Value),(s.made.map Value.string)[m+i]?=some v→W'.cell? ((⟨mg,m,none⟩:Addr).add i)=some v):=fun W' hW m i v hv=>by
  rw[addr_add,World.cell?_of_block (a:=⟨mg,m+i,none⟩) hW];exact cells_of_row hrow hv
 have H1:Hid (∀i v,((s.made.take k).map Value.string)[i]?=some v→W3.cell? ((⟨mg,0,none⟩:Addr).add i)=some v):=fun i v hv=>by
  refine HN.out W3 rfl 0 i v ?_;rw[List.map_take,List.getElem?_take]at hv;split at hv
  ·rw[Nat.zero_add];exact hv
  ·cases hv
 have H2:Hid (∀W':World,W'.heap[mg]?=W3.heap[mg]?→∀i v,((s.made.drop (k+1)).map Value.string)[i]?=some v→W'.cell? ((⟨mg,k+1,none⟩:Addr).add i)=some v):=fun W' hW i v hv=>by
  refine HN.out W' hW _ i v ?_;rw[List.map_drop,List.getElem?_drop]at hv;exact hv
 have C1:((s.made.take k).map Value.string).length=k*1:=by rw[List.length_map,List.length_take,HMk.out];omega
 have C2:((s.made.drop (k+1)).map Value.string).length=(mk-(k+1))*1:=by rw[List.length_map,List.length_drop,HMk.out];omega
 have HO:Hid (∀(l:List ByteArray),∀u∈l.map Value.string,u.oneCell'=true):=fun l u hu=>by
  obtain⟨z,_,rfl⟩:=List.mem_map.1 hu;rfl
 have HN0:=hide' (World.ownsRow_nil W3 0 9 1);obtain⟨i9,h91,h92,h93,h94⟩:=info9s;have HI9:=hide' (And.intro h91 (And.intro h92 (And.intro h93 h94)));clear h91 h92 h93 h94;have HSK:=hide' (HH3.out.svk HX.out.2.1);have hsl:=blkLt HSK.out.blk;have HA:Hid (∀(w9:World) (va:Option Addr) (cap:Nat),w9.ownsRow 0 9 1 (.slice va (0+k) cap) (0+k) ([]++(s.made.take k).map .string)→W3.grownBy w9 (Value.slice none 0 0).ownBlock→((Value.slice va (0+k) cap).ownBlock=(Value.slice none 0 0).ownBlock∨∃g,(Value.slice va (0+k) cap).ownBlock=some g∧W3.heap.size≤g)→w9.heap[mg]?=W3.heap[mg]?∧Chg [] W3 w9∧w9.ownsRow 0 9 1 (.slice va k cap) k ((s.made.take k).map .string)∧∀b,(Value.slice va k cap).ownBlock=some b→W3.heap.size≤b):=fun w9 va cap h1 h2 h3=>by
  rw[Nat.zero_add,List.nil_append]at h1;rw[Nat.zero_add]at h3;have hk:Chg [] W3 w9:=(Chg.refl _ W3).grown h2 (fun b e=>by cases e);refine⟨hk.block mg lmg (by simp),hk,h1,fun b hb=>?_⟩;rcases h3 with e|⟨g',e,hge⟩
  ·rw[hb]at e;cases e
  ·rw[hb]at e;cases e;exact hge
 have HBt:Hid (∀(w9 w8:World) (va va':Option Addr) (cap cap':Nat),Chg [] W3 w9→(∀b,(Value.slice va k cap).ownBlock=some b→W3.heap.size≤b)→w8.ownsRow 0 9 1 (.slice va' (k+(mk-(k+1))) cap') (k+(mk-(k+1))) ((s.made.take k).map .string++(s.made.drop (k+1)).map .string)→w9.grownBy w8 (Value.slice va k cap).ownBlock→((Value.slice va' (k+(mk-(k+1))) cap').ownBlock=(Value.slice va k cap).ownBlock∨∃g,(Value.slice va' (k+(mk-(k+1))) cap').ownBlock=some g∧w9.heap.size≤g)→SvTo W3 (w8.setCell ⟨s.b,2,none⟩ (.slice va' (k+(mk-(k+1))) cap')) s {s with mv:= .slice va' (k+(mk-(k+1))) cap',made:=s.made.take k++s.made.drop (k+1)}∧w8.frozen? ⟨s.b,2,none⟩=false∧s.b<w8.heap.size∧w8.cell? ⟨s.b,2,none⟩=some s.mv):=fun w9 w8 va va' cap cap' k9 hn9 h1 h2 h3=>by
  have hk8:Chg [] W3 w8:=k9.grown h2 (fun b e=> .inr (hn9 b e));have hlen:(s.made.take k++s.made.drop (k+1)).length=k+(mk-(k+1)):=by rw[List.length_append,List.length_take,List.length_drop,HMk.out];omega
  refine HSK.out.takes hk8 ?_ (fun b hb=>?_)
  ·rw[hlen,List.map_append];exact h1
  ·rcases h3 with e|⟨g',e,hge⟩
   ·exact hn9 b (by rw[←e];exact hb)
   ·rw[hb]at e;cases e;have:=k9.size;omega
 have HSb:=hide' (And.intro HSK.out.blk hsl);clear hrow hcur HSK;go_upto_region 31 with(first
  |(at_builtin;refine wpList_append_any _ rfl _ _ _ rfl 0 9 i9 (.string ⟨#[]⟩) 1 16 Tryz.underlying34 HI9.out.1 HI9.out.2.1 HI9.out.2.2.1 HI9.out.2.2.2 rfl (by omega) none 0 0 [] rfl HN0.out ⟨mg,0,none⟩ k mc ((s.made.take k).map .string) rfl C1 H1.out (HO.out _) (by unfold maxLen;omega) (by omega) (Nat.zero_le _) ?_;intro va cap w9 hown hgr hat;have hA:=HA.out w9 va cap hown hgr hat;rw[Nat.zero_add];clear hown hgr hat)
  |fail)
 have HA9:=hide' hA;have hB9:=hA.2.1.keep HSb.out.1 (by simp);have cc9:=blkCell hB9 2;have hBl9:=blkLt hB9;simp at cc9;rw[HKj.out.2.2]at cc9;clear hA hB9 k2 lb kmg lmg q0 q2 ql hsl;go_cut [] (fun W'=>Hid (∃v',SvTo W3 W' s {s with mv:=v',made:=s.made.take k++s.made.drop (k+1)}))
 case first=>
  as_aux_lemma=>
   by_cases hci:mc=k+1
   ·have hN0:Hid (∀i v,((s.made.drop (k+1)).map Value.string)[i]?=some v→w9.cell? ((⟨mg,0,none⟩:Addr).add i)=some v):=fun i v hv=>by
     have:=(List.getElem?_eq_some_iff.1 hv).1;omega
    go_wp2_with (first
     |(at_builtin;refine wpList_append_any _ rfl _ _ _ rfl 0 9 i9 (.string ⟨#[]⟩) 1 16 Tryz.underlying34 HI9.out.1 HI9.out.2.1 HI9.out.2.2.1 HI9.out.2.2.2 rfl (by omega) va k cap ((s.made.take k).map .string) rfl HA9.out.2.2.1 ⟨mg,0,none⟩ (mk-(k+1)) (mc-(k+1)) ((s.made.drop (k+1)).map .string) (by first|rfl|(go_simp;done)) C2 hN0.out (HO.out _) (by unfold maxLen;omega) (by omega) (Nat.zero_le _) ?_;intro va' cap' w8 hown hgr hat;have hp:=HBt.out w9 w8 va va' cap cap' HA9.out.2.1 HA9.out.2.2.2 hown hgr hat;have HQ:=hide' hp.1;have cf8:=hp.2.1;have hBl8:=hp.2.2.1;have cc8:=hp.2.2.2;clear hown hgr hat hp)
     |fail)
    go_meet
    case rel=>exact⟨_,HQ.out⟩
   ·have hci':¬k+1=mc:=fun e=>hci e.symm
    go_wp2_with (first
     |(at_builtin;refine wpList_append_any _ rfl _ _ _ rfl 0 9 i9 (.string ⟨#[]⟩) 1 16 Tryz.underlying34 HI9.out.1 HI9.out.2.1 HI9.out.2.2.1 HI9.out.2.2.2 rfl (by omega) va k cap ((s.made.take k).map .string) rfl HA9.out.2.2.1 ⟨mg,k+1,none⟩ (mk-(k+1)) (mc-(k+1)) ((s.made.drop (k+1)).map .string) (by first|rfl|(go_simp;done)) C2 (H2.out w9 HA9.out.1) (HO.out _) (by unfold maxLen;omega) (by omega) (Nat.zero_le _) ?_;intro va' cap' w8 hown hgr hat;have hp:=HBt.out w9 w8 va va' cap cap' HA9.out.2.1 HA9.out.2.2.2 hown hgr hat;have HQ:=hide' hp.1;have cf8:=hp.2.1;have hBl8:=hp.2.2.1;have cc8:=hp.2.2.2;clear hown hgr hat hp)
     |fail)
    go_meet
    case rel=>exact⟨_,HQ.out⟩
 case rest=>
  as_aux_lemma=>
   obtain⟨v',hsv⟩:=hcut.out
   obtain⟨⟨q0,q2⟩,ql⟩:=HBx.out W3 HB3.out
   have hB4:wc.heap[B]?=W3.heap[B]?:=hsv.chg.block B ql (fun hm=>by have:=HFo.out B hm;omega)
   have q0:=(World.cell?_of_block (a:=⟨B,0,none⟩) hB4).trans q0
   have q2:=(World.cell?_of_block (a:=⟨B,2,none⟩) hB4).trans q2
   have ql:B<wc.heap.size:=Nat.lt_of_lt_of_le ql hsv.chg.size
   have hpl:=HH3.out.pb.pl.served HX.out.2.1 hsv
   obtain⟨p0,_,_,_,_,pl⟩:=hpl.pc
   have HPl:=hide' hpl
   have hsum:=HH3.out.pb.sum
   have hbl:=HH3.out.bl
   have hhe:u.held=[]:=(HX.out.2.2.2.1.non rfl).1
   clear hcut hsv hB4 HA9 HBt HA HN H1 H2 HN0 HO HRow HFa HBx HSb hpl cc9 hBl9 C1 C2 HI9 HB3 HFo
   generalize wc=W4 at*
   have HPk3:=hide' (fun W=>pick_big y T.size W hy (by omega) (by omega))
   have hcT:=pickN_lt y T.size (by omega)
   generalize pickN y T.size=c at*
   have hcT':(c:Int)≤(T.size:Int):=by omega
   have hcT2:c≤T.size:=by omega
   have hpz:(T.extract 0 c).size≤47:=by simp;omega
   have HC:=hide' ((HPl.out.below (Below.refl _ _).drew).callAnswer HX.out.1 HX.out.2.2.2.2.2.2 (T.extract 0 c) (by omega) (by rw[hhe];simp only[List.length_nil];omega))
   have HT8:Hid (∀W',PlayV w W' P X sv pt win (4000*sd.sum) (answeredJ sv pt win n1 (T.extract 0 c).data.toList st) {D with S:=D.S.set n1 {s with mv:=v',made:=s.made.take k++s.made.drop (k+1)}}→W'.cell? ⟨P,0,none⟩=some (.pointer (some ⟨X,0,none⟩))∧W'.cell? ⟨P,6,none⟩=some (.slice (some ⟨g6,0,none⟩) sv c6)∧W'.cell? ⟨g6,n1,none⟩=some (.string b)∧W'.frozen? ⟨g6,n1,none⟩=false∧g6<W'.heap.size∧P<W'.heap.size∧FaTo gs w (W'.setCell ⟨g6,n1,none⟩ (.string (T.extract c T.size))) P X sv pt win css):=fun W' k5=>by
    have r0:=k5.pc;have r6:=k5.p6;have e6:({D with S:=D.S.set n1 {s with mv:=v',made:=s.made.take k++s.made.drop (k+1)}}:PlD).v6= .slice (some ⟨g6,0,none⟩) sv c6:=HX.out.2.2.2.2.2.1;rw[e6]at r6;obtain⟨gq,cq,ev,_,hl,hc⟩:=k5.cellsAt (i:=5) (n:=sv) (j:=n1) (u:= .string b) rfl (by show(D.byt.map _).length=_;rw[List.length_map];exact hbl) (by show(D.byt.map _)[n1]?=_;rw[List.getElem?_map,HX.out.2.2.1];rfl);change D.v6=_ at ev;rw[HX.out.2.2.2.2.2.1]at ev;cases ev;refine⟨r0.1,r6,hc,(k5.putByt (m:=noB) e6 hbl hn1).2,hl,r0.2.2.2.2.2,?_⟩;rw[←HTT.out]at k5⊢;exact HH3.out.took4 HDs.out HX.out.1 HX.out.2.1 HX.out.2.2.1 HX.out.2.2.2.1 HKj.out.1 (by rw[HTT.out];exact hcT) k5 HX.out.2.2.2.2.2.1 hn1
   clear HPl hpz hhe
   go_wp2_with fail
   go_at_call 17
   refine(HPk3.out _).mono ?_
   rintro e w7 ⟨rfl,hw7⟩
   subst hw7
   go_wp2_with fail
   go_region_held3 (fun W'=>W'.cell? ⟨P,0,none⟩=some (.pointer (some ⟨X,0,none⟩))) (go_keep) (first
    |(go_at_call 32;refine HC.out.mono ?_;rintro e W5 ⟨rfl,h8⟩;have h9:=HT8.out W5 h8;have x0:=h9.1;have HE:=hide' h9.2;clear h8 h9)
    |fail)
   rename_i hHeld
   clear hHeld x0 p0 pl q0 q2 ql HC HT8
   have x6:=HE.out.1
   have x7:=HE.out.2.1
   have xf:=HE.out.2.2.1
   have xl:=HE.out.2.2.2.1
   have xp:=HE.out.2.2.2.2.1
   go_wp2_with fail
   go_big_region
   go_wp2_with fail
   go_ret
   exact⟨rfl,HE.out.2.2.2.2.2.below (Below.refl _ _).drew⟩
end
end Go.Proofs.YtlonjggfnleolaaGreatDoor
