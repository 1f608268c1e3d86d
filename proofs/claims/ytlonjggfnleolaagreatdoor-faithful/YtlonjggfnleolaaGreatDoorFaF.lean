import Derived.Test.YtlonjggfnleolaaGreatDoorFaE
namespace Go.Proofs.YtlonjggfnleolaaGreatDoor
open Go.RowKit Go.Shelf
set_option linter.unusedVariables false
set_option maxHeartbeats 4000000
set_option maxRecDepth 100000
variable {b:ByteArray}{j rj:Nat}{u:SrvQ}{s:SvG}{js:List Nat}
def AnTo (gs:List Int)(w W':World)(P X sv pt win:Nat)(css:List (List Cmd))(sd:List Nat)(st:List CliQ×List SrvQ)(D:PlD)(L:Nat→List En)(A:Nat→Nat)(Cl:Nat→Nat→Prop)(n rj m sb:Nat):Prop:=∃D' st' L' A' Cl' u' s' b' js' pn',FaSt gs w W' P X sv pt win css sd st' D' L' A' Cl'∧Adv st L A st' L' A'∧(∀o id,Cl o id→Cl' o id)∧D'.v1=D.v1∧D'.v6=D.v6∧st'.2[n]?=some u'∧D'.S[n]?=some s'∧D'.byt[n]?=some b'∧s'.b=sb∧SF (L' n) (Cl' n) u'.held s' b' rj js' pn'∧(js'++pn'.toList).length=m∧D'.sd=D.sd
theorem setSame {α:Type}{l:List α}{i:Nat}{x:α}(h:l[i]?=some x):l.set i x=l:=by
 obtain⟨h1,h2⟩:=List.getElem?_eq_some_iff.1 h;rw[←h2];simp
theorem emp_no (h:b.size≠0):b.toList.isEmpty=false:=by
 rw[ByteArray.toList_eq];cases hl:b.data.toList with
 |nil=>exact absurd (by rw[←len_size',hl];rfl) h
 |cons x l=>rfl
section
variable {gs:List Int}{w W W':World}{P X sv pt win:Nat}{css:List (List Cmd)}{sd:List Nat}{st:List CliQ×List SrvQ}{D:PlD}{L:Nat→List En}{A:Nat→Nat}{Cl:Nat→Nat→Prop}
theorem FaSt.gives (h:FaSt gs w W P X sv pt win css sd st D L A Cl){n:Nat}(hu:st.2[n]?=some u)(hS:D.S[n]?=some s)(hB:D.byt[n]?=some b)(hF:SF (L n) (Cl n) u.held s b rj js (some j)){W1 W2:World}(k:PlayV w W1 P X sv pt win (4000*sd.sum) (answeredJ sv pt win n b.data.toList st) D){g6 c6:Nat}(e6:D.v6= .slice (some ⟨g6,0,none⟩) sv c6)(hn:n<sv):AnTo gs w (W1.setCell ⟨g6,n,none⟩ (.string noB)) P X sv pt win css sd st D L A Cl n rj js.length s.b:=by
 obtain⟨k2,_⟩:=k.putByt (m:=noB) e6 h.bl hn;have hjr:=hF.lt j (by simp);have hrl:=hF.rl;have hc:¬Cl n j:=(hF.opn j (by omega)).2 (.inl (by simp));have hBl:=(List.getElem?_eq_some_iff.1 hB).1;obtain⟨st',L',A',Cl',u',e0,a1,a2,a3,a4,a5⟩:=h.whole hu hS hB (by omega) hc (hF.som j rfl).1 hF k2 (setSame hS).symm rfl rfl rfl;exact⟨_,st',L',A',Cl',u',s,noB,js,none,a1,a2,a3,rfl,rfl,a4,hS,List.getElem?_set_self hBl,rfl,a5,by simp,rfl⟩
theorem step_fin3 (h:FaSt gs w W P X sv pt win css sd st D L A Cl)(x y:Int)(hx:(Lit.int .i64 x).wf=true)(hn1:pickN x sv<sv)(hu:st.2[pickN x sv]?=some u)(hup:u.up=true)(hS:D.S[pickN x sv]?=some s)(hB:D.byt[pickN x sv]?=some b)(hF:SF (L (pickN x sv)) (Cl (pickN x sv)) u.held s b rj js (some j)):Calls Tryz.prog 25 #[.pointer (some ⟨P,0,none⟩),.agg #[.int .i64 3,.int .i64 x,.int .i64 y]] W fun e w'=>e= .returned (.bool true)∧AnTo gs w w' P X sv pt win css sd st D L A Cl (pickN x sv) rj js.length s.b:=by
 obtain⟨hs1,hs4⟩:=h.pb.s14;obtain⟨g1,c1,g6,c6,e1,e6,f1,f6⟩:=h.frm;have HPk:=hide' (fun W=>pick_big x sv W hx (by omega) (by omega));generalize pickN x sv=n1 at*;have hn1':(n1:Int)<(sv:Int):=by omega
 obtain⟨⟨p0,p1,p6,k1,k6,k2⟩,pl,l1,l6,lb⟩:=h.cel hn1 hS hB e1 e6;have hsum:=h.pb.sum;have HH:=hide' h;have HX:=hide' (And.intro hu (And.intro hS (And.intro hB (And.intro hF (And.intro e1 (And.intro e6 hup))))));clear h hu hS hB hF e1 e6 k6 k2 lb hup p6 l6;go_enter Tryz.func25,Tryz.ntmps25;go_wp2_with fail
 go_quiet ((go_at_call 17;exact Calls.quiet_of_same (HPk.out _)))
 have hbW:Below W.heap.size W ((W.alloc (.cells #[.int .i64 3,.int .i64 x,.int .i64 y] 52)).drewN nq):=below_drewN ((Below.refl _ _).alloc (Nat.le_refl _) _) _;have q0:((W.alloc (.cells #[.int .i64 3,.int .i64 x,.int .i64 y] 52)).drewN nq).cell? ⟨W.heap.size,0,none⟩=some (.int .i64 3):=by simp
 have q2:((W.alloc (.cells #[.int .i64 3,.int .i64 x,.int .i64 y] 52)).drewN nq).cell? ⟨W.heap.size,2,none⟩=some (.int .i64 y):=by simp
 have ql:W.heap.size<((W.alloc (.cells #[.int .i64 3,.int .i64 x,.int .i64 y] 52)).drewN nq).heap.size:=by show W.heap.size<(W.alloc _).heap.size;simp
 generalize (W.alloc (.cells #[.int .i64 3,.int .i64 x,.int .i64 y] 52)).drewN nq=W2 at*;have HH2:=hide' (HH.out.below hbW);clear hbW HH HPk p0 p1 k1 pl l1;obtain⟨⟨p0,p1,p6,k1,k6,k2⟩,pl,l1,l6,lb⟩:=HH2.out.cel hn1 HX.out.2.1 HX.out.2.2.1 HX.out.2.2.2.2.1 HX.out.2.2.2.2.2.1;generalize W.heap.size=B at*;have hne:=emp_no (HX.out.2.2.2.1.som j rfl).2;have hlen:(u.held++b.data.toList).length≤47:=by
  rw[(HX.out.2.2.2.1.som j rfl).1,len_size'];unfold ansE;rw[ansF_size];have:=ansR_size (fun e he=>(HH2.out.ji.ownE HH2.out.pb.said he).2.2) (es:=L n1) j;omega
 rw[List.length_append,len_size']at hlen;have HC:=hide' ((HH2.out.below (Below.refl _ _).drew).pb.pl.callAnswer HX.out.1 HX.out.2.2.2.2.2.2 b (by omega) (by omega));have HT8:Hid (∀W',PlayV w W' P X sv pt win (4000*sd.sum) (answeredJ sv pt win n1 b.data.toList st) D→W'.cell? ⟨P,0,none⟩=some (.pointer (some ⟨X,0,none⟩))∧W'.cell? ⟨P,6,none⟩=some (.slice (some ⟨g6,0,none⟩) sv c6)∧W'.cell? ⟨g6,n1,none⟩=some (.string b)∧W'.frozen? ⟨g6,n1,none⟩=false∧g6<W'.heap.size∧P<W'.heap.size∧AnTo gs w (W'.setCell ⟨g6,n1,none⟩ (.string ⟨#[]⟩)) P X sv pt win css sd st D L A Cl n1 rj js.length s.b):=fun W' k=>by
  have r0:=k.pc;have r6:=k.p6;rw[HX.out.2.2.2.2.2.1]at r6;obtain⟨g,c,ev,_,hl,hc⟩:=k.cellsAt (i:=5) (n:=sv) (j:=n1) (u:= .string b) rfl (by show(D.byt.map _).length=_;rw[List.length_map];exact HH2.out.bl) (by show(D.byt.map _)[n1]?=_;rw[List.getElem?_map,HX.out.2.2.1];rfl);change D.v6=_ at ev;rw[HX.out.2.2.2.2.2.1]at ev;cases ev;exact⟨r0.1,r6,hc,(k.putByt (m:=noB) HX.out.2.2.2.2.2.1 HH2.out.bl hn1).2,hl,r0.2.2.2.2.2,HH2.out.gives HX.out.1 HX.out.2.1 HX.out.2.2.1 HX.out.2.2.2.1 k (W2:=W') HX.out.2.2.2.2.2.1 hn1⟩
 clear k2 lb hlen q2;go_wp2_with fail
 go_region_held3 (fun W'=>W'.cell? ⟨P,0,none⟩=some (.pointer (some ⟨X,0,none⟩))∧W'.cell? ⟨P,6,none⟩=some (.slice (some ⟨g6,0,none⟩) sv c6)∧W'.cell? ⟨g6,n1,none⟩=some (.string b)) (go_keep) (first
  |(go_at_call 32;refine HC.out.mono ?_;rintro e Wt ⟨rfl,h8⟩;have h9:=HT8.out Wt h8;have x0:=h9.1;have x1:=h9.2.1;have x2:=h9.2.2.1;have HE:=hide' h9.2.2.2;clear h8 h9)
  |fail)
 rename_i hHeld;clear hHeld x0 p0 p1 p6 k1 k6 pl l1 l6 q0 ql HC HT8;have xf:=HE.out.1;have xl:=HE.out.2.1;have xp:=HE.out.2.2.1;go_wp2_with fail
 go_ret;exact⟨rfl,HE.out.2.2.2⟩
theorem step_fin4 (h:FaSt gs w W P X sv pt win css sd st D L A Cl)(x y:Int)(hx:(Lit.int .i64 x).wf=true)(hn1:pickN x sv<sv)(hu:st.2[pickN x sv]?=some u)(hup:u.up=true)(hS:D.S[pickN x sv]?=some s)(hB:D.byt[pickN x sv]?=some b)(hF:SF (L (pickN x sv)) (Cl (pickN x sv)) u.held s b rj js (some j)):Calls Tryz.prog 25 #[.pointer (some ⟨P,0,none⟩),.agg #[.int .i64 4,.int .i64 x,.int .i64 y]] W fun e w'=>e= .returned (.bool true)∧AnTo gs w w' P X sv pt win css sd st D L A Cl (pickN x sv) rj js.length s.b:=by
 obtain⟨hs1,hs4⟩:=h.pb.s14;obtain⟨g1,c1,g6,c6,e1,e6,f1,f6⟩:=h.frm;have HPk:=hide' (fun W=>pick_big x sv W hx (by omega) (by omega));generalize pickN x sv=n1 at*;have hn1':(n1:Int)<(sv:Int):=by omega
 obtain⟨⟨p0,p1,p6,k1,k6,k2⟩,pl,l1,l6,lb⟩:=h.cel hn1 hS hB e1 e6;have hsum:=h.pb.sum;have HH:=hide' h;have HX:=hide' (And.intro hu (And.intro hS (And.intro hB (And.intro hF (And.intro e1 (And.intro e6 hup))))));clear h hu hS hB hF e1 e6 k6 k2 lb hup p6 l6;go_enter Tryz.func25,Tryz.ntmps25;go_wp2_with fail
 go_quiet ((go_at_call 17;exact Calls.quiet_of_same (HPk.out _)))
 have hbW:Below W.heap.size W ((W.alloc (.cells #[.int .i64 4,.int .i64 x,.int .i64 y] 52)).drewN nq):=below_drewN ((Below.refl _ _).alloc (Nat.le_refl _) _) _;have q0:((W.alloc (.cells #[.int .i64 4,.int .i64 x,.int .i64 y] 52)).drewN nq).cell? ⟨W.heap.size,0,none⟩=some (.int .i64 4):=by simp
 have q2:((W.alloc (.cells #[.int .i64 4,.int .i64 x,.int .i64 y] 52)).drewN nq).cell? ⟨W.heap.size,2,none⟩=some (.int .i64 y):=by simp
 have ql:W.heap.size<((W.alloc (.cells #[.int .i64 4,.int .i64 x,.int .i64 y] 52)).drewN nq).heap.size:=by show W.heap.size<(W.alloc _).heap.size;simp
 generalize (W.alloc (.cells #[.int .i64 4,.int .i64 x,.int .i64 y] 52)).drewN nq=W2 at*;have HH2:=hide' (HH.out.below hbW);clear hbW HH HPk p0 p1 k1 pl l1;obtain⟨⟨p0,p1,p6,k1,k6,k2⟩,pl,l1,l6,lb⟩:=HH2.out.cel hn1 HX.out.2.1 HX.out.2.2.1 HX.out.2.2.2.2.1 HX.out.2.2.2.2.2.1;generalize W.heap.size=B at*;have hne:=emp_no (HX.out.2.2.2.1.som j rfl).2;have hlen:(u.held++b.data.toList).length≤47:=by
  rw[(HX.out.2.2.2.1.som j rfl).1,len_size'];unfold ansE;rw[ansF_size];have:=ansR_size (fun e he=>(HH2.out.ji.ownE HH2.out.pb.said he).2.2) (es:=L n1) j;omega
 rw[List.length_append,len_size']at hlen;have HC:=hide' ((HH2.out.below (Below.refl _ _).drew).pb.pl.callAnswer HX.out.1 HX.out.2.2.2.2.2.2 b (by omega) (by omega));have HT8:Hid (∀W',PlayV w W' P X sv pt win (4000*sd.sum) (answeredJ sv pt win n1 b.data.toList st) D→W'.cell? ⟨P,0,none⟩=some (.pointer (some ⟨X,0,none⟩))∧W'.cell? ⟨P,6,none⟩=some (.slice (some ⟨g6,0,none⟩) sv c6)∧W'.cell? ⟨g6,n1,none⟩=some (.string b)∧W'.frozen? ⟨g6,n1,none⟩=false∧g6<W'.heap.size∧P<W'.heap.size∧AnTo gs w (W'.setCell ⟨g6,n1,none⟩ (.string ⟨#[]⟩)) P X sv pt win css sd st D L A Cl n1 rj js.length s.b):=fun W' k=>by
  have r0:=k.pc;have r6:=k.p6;rw[HX.out.2.2.2.2.2.1]at r6;obtain⟨g,c,ev,_,hl,hc⟩:=k.cellsAt (i:=5) (n:=sv) (j:=n1) (u:= .string b) rfl (by show(D.byt.map _).length=_;rw[List.length_map];exact HH2.out.bl) (by show(D.byt.map _)[n1]?=_;rw[List.getElem?_map,HX.out.2.2.1];rfl);change D.v6=_ at ev;rw[HX.out.2.2.2.2.2.1]at ev;cases ev;exact⟨r0.1,r6,hc,(k.putByt (m:=noB) HX.out.2.2.2.2.2.1 HH2.out.bl hn1).2,hl,r0.2.2.2.2.2,HH2.out.gives HX.out.1 HX.out.2.1 HX.out.2.2.1 HX.out.2.2.2.1 k (W2:=W') HX.out.2.2.2.2.2.1 hn1⟩
 clear k2 lb hlen q2;go_wp2_with fail
 go_region_held3 (fun W'=>W'.cell? ⟨P,0,none⟩=some (.pointer (some ⟨X,0,none⟩))∧W'.cell? ⟨P,6,none⟩=some (.slice (some ⟨g6,0,none⟩) sv c6)∧W'.cell? ⟨g6,n1,none⟩=some (.string b)) (go_keep) (first
  |(go_at_call 32;refine HC.out.mono ?_;rintro e Wt ⟨rfl,h8⟩;have h9:=HT8.out Wt h8;have x0:=h9.1;have x1:=h9.2.1;have x2:=h9.2.2.1;have HE:=hide' h9.2.2.2;clear h8 h9)
  |fail)
 rename_i hHeld;clear hHeld x0 p0 p1 p6 k1 k6 pl l1 l6 q0 ql HC HT8;have xf:=HE.out.1;have xl:=HE.out.2.1;have xp:=HE.out.2.2.1;go_wp2_with fail
 go_ret;exact⟨rfl,HE.out.2.2.2⟩
theorem step_idle3 (h:FaSt gs w W P X sv pt win css sd st D L A Cl)(x y:Int)(hx:(Lit.int .i64 x).wf=true)(hn1:pickN x sv<sv)(hu:st.2[pickN x sv]?=some u)(hup:u.up=true)(hS:D.S[pickN x sv]?=some s)(hB:D.byt[pickN x sv]?=some b)(hF:SF (L (pickN x sv)) (Cl (pickN x sv)) u.held s b rj [] none):Calls Tryz.prog 25 #[.pointer (some ⟨P,0,none⟩),.agg #[.int .i64 3,.int .i64 x,.int .i64 y]] W fun e w'=>e= .returned (.bool true)∧FaSt gs w w' P X sv pt win css sd st D L A Cl:=by
 obtain⟨hs1,hs4⟩:=h.pb.s14;obtain⟨g1,c1,g6,c6,e1,e6,f1,f6⟩:=h.frm;have HPk:=hide' (fun W=>pick_big x sv W hx (by omega) (by omega));generalize pickN x sv=n1 at*;have hn1':(n1:Int)<(sv:Int):=by omega
 obtain⟨⟨p0,p1,p6,k1,k6,k2⟩,pl,l1,l6,lb⟩:=h.cel hn1 hS hB e1 e6;have hsum:=h.pb.sum;have HH:=hide' h;have HX:=hide' (And.intro hu (And.intro hS (And.intro hB (And.intro hF (And.intro e1 (And.intro e6 hup))))));clear h hu hS hB hF e1 e6 k6 k2 lb hup p6 l6;go_enter Tryz.func25,Tryz.ntmps25;go_wp2_with fail
 go_quiet ((go_at_call 17;exact Calls.quiet_of_same (HPk.out _)))
 have hbW:Below W.heap.size W ((W.alloc (.cells #[.int .i64 3,.int .i64 x,.int .i64 y] 52)).drewN nq):=below_drewN ((Below.refl _ _).alloc (Nat.le_refl _) _) _;have q0:((W.alloc (.cells #[.int .i64 3,.int .i64 x,.int .i64 y] 52)).drewN nq).cell? ⟨W.heap.size,0,none⟩=some (.int .i64 3):=by simp
 have q2:((W.alloc (.cells #[.int .i64 3,.int .i64 x,.int .i64 y] 52)).drewN nq).cell? ⟨W.heap.size,2,none⟩=some (.int .i64 y):=by simp
 have ql:W.heap.size<((W.alloc (.cells #[.int .i64 3,.int .i64 x,.int .i64 y] 52)).drewN nq).heap.size:=by show W.heap.size<(W.alloc _).heap.size;simp
 generalize (W.alloc (.cells #[.int .i64 3,.int .i64 x,.int .i64 y] 52)).drewN nq=W2 at*;have HH2:=hide' (HH.out.below hbW);clear hbW HH HPk p0 p1 k1 pl l1;obtain⟨⟨p0,p1,p6,k1,k6,k2⟩,pl,l1,l6,lb⟩:=HH2.out.cel hn1 HX.out.2.1 HX.out.2.2.1 HX.out.2.2.2.2.1 HX.out.2.2.2.2.2.1;generalize W.heap.size=B at*;have hb0:b=⟨#[]⟩:=(HX.out.2.2.2.1.non rfl).2;rw[hb0]at k6;have hmd:s.made=[]:=HX.out.2.2.2.1.made;obtain⟨ma,mc,em,hmc,_⟩:=row_sl (HH2.out.svk HX.out.2.1).rM;rw[hmd]at em;rw[em]at k2;clear em hmd q2;simp only[List.length_nil]at k2;go_wp2_with fail
 go_ret;exact⟨rfl,HH2.out⟩
theorem step_idle4 (h:FaSt gs w W P X sv pt win css sd st D L A Cl)(x y:Int)(hx:(Lit.int .i64 x).wf=true)(hn1:pickN x sv<sv)(hu:st.2[pickN x sv]?=some u)(hup:u.up=true)(hS:D.S[pickN x sv]?=some s)(hB:D.byt[pickN x sv]?=some b)(hF:SF (L (pickN x sv)) (Cl (pickN x sv)) u.held s b rj [] none):Calls Tryz.prog 25 #[.pointer (some ⟨P,0,none⟩),.agg #[.int .i64 4,.int .i64 x,.int .i64 y]] W fun e w'=>e= .returned (.bool true)∧FaSt gs w w' P X sv pt win css sd st D L A Cl:=by
 obtain⟨hs1,hs4⟩:=h.pb.s14;obtain⟨g1,c1,g6,c6,e1,e6,f1,f6⟩:=h.frm;have HPk:=hide' (fun W=>pick_big x sv W hx (by omega) (by omega));generalize pickN x sv=n1 at*;have hn1':(n1:Int)<(sv:Int):=by omega
 obtain⟨⟨p0,p1,p6,k1,k6,k2⟩,pl,l1,l6,lb⟩:=h.cel hn1 hS hB e1 e6;have hsum:=h.pb.sum;have HH:=hide' h;have HX:=hide' (And.intro hu (And.intro hS (And.intro hB (And.intro hF (And.intro e1 (And.intro e6 hup))))));clear h hu hS hB hF e1 e6 k6 k2 lb hup p6 l6;go_enter Tryz.func25,Tryz.ntmps25;go_wp2_with fail
 go_quiet ((go_at_call 17;exact Calls.quiet_of_same (HPk.out _)))
 have hbW:Below W.heap.size W ((W.alloc (.cells #[.int .i64 4,.int .i64 x,.int .i64 y] 52)).drewN nq):=below_drewN ((Below.refl _ _).alloc (Nat.le_refl _) _) _;have q0:((W.alloc (.cells #[.int .i64 4,.int .i64 x,.int .i64 y] 52)).drewN nq).cell? ⟨W.heap.size,0,none⟩=some (.int .i64 4):=by simp
 have q2:((W.alloc (.cells #[.int .i64 4,.int .i64 x,.int .i64 y] 52)).drewN nq).cell? ⟨W.heap.size,2,none⟩=some (.int .i64 y):=by simp
 have ql:W.heap.size<((W.alloc (.cells #[.int .i64 4,.int .i64 x,.int .i64 y] 52)).drewN nq).heap.size:=by show W.heap.size<(W.alloc _).heap.size;simp
 generalize (W.alloc (.cells #[.int .i64 4,.int .i64 x,.int .i64 y] 52)).drewN nq=W2 at*;have HH2:=hide' (HH.out.below hbW);clear hbW HH HPk p0 p1 k1 pl l1;obtain⟨⟨p0,p1,p6,k1,k6,k2⟩,pl,l1,l6,lb⟩:=HH2.out.cel hn1 HX.out.2.1 HX.out.2.2.1 HX.out.2.2.2.2.1 HX.out.2.2.2.2.2.1;generalize W.heap.size=B at*;have hb0:b=⟨#[]⟩:=(HX.out.2.2.2.1.non rfl).2;rw[hb0]at k6;have hmd:s.made=[]:=HX.out.2.2.2.1.made;obtain⟨ma,mc,em,hmc,_⟩:=row_sl (HH2.out.svk HX.out.2.1).rM;rw[hmd]at em;rw[em]at k2;clear em hmd q2;simp only[List.length_nil]at k2;go_wp2_with fail
 go_ret;exact⟨rfl,HH2.out⟩
end
end Go.Proofs.YtlonjggfnleolaaGreatDoor
