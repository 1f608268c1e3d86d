import Derived.Test.YtlonjggfnleolaaGreatDoorRnB
namespace Go.Proofs.YtlonjggfnleolaaGreatDoor
open Go.RowKit Go.Shelf
set_option linter.unusedVariables false
set_option maxHeartbeats 1000000
set_option maxRecDepth 100000
variable {cs:List CliQ}
theorem findP_ids (o id:Nat):findP o id cs 0=none↔id∉idsAt o (opJ cs):=by
 rw[mem_idsAt];constructor
 ·intro h hm;unfold opJ at hm;obtain⟨s,hs,h1⟩:=List.mem_flatMap.1 hm;unfold opQs at h1;obtain⟨x,hx,h2⟩:=List.mem_flatMap.1 h1;unfold opPs at h2;obtain⟨p,hp,h3⟩:=List.mem_filterMap.1 h2;cases p using PS.el with
  |op a b=>
   simp at h3;obtain⟨rfl,rfl⟩:=h3;exact findP_none _ _ _ _ h s hs x hx _ hp rfl
  |_=>simp at h3
 ·intro h;cases hf:findP o id cs 0 with
  |none=>rfl
  |some z=>
   exfalso;obtain⟨i,k,m⟩:=z;obtain⟨j,s,x,_,hs,hx,hm⟩:=findP_some _ _ _ _ _ _ _ hf;refine h ?_;unfold opJ;refine List.mem_flatMap.2 ⟨s,List.mem_of_getElem? hs,?_⟩;unfold opQs;refine List.mem_flatMap.2 ⟨x,List.mem_of_getElem? hx,?_⟩;unfold opPs;exact List.mem_filterMap.2 ⟨_,List.mem_of_getElem? hm,rfl⟩
theorem rfreeQ {w:World}{X sv pt win:Nat}{cv rv:Value}{cis:List RCliV}{vs:List Nat}{ss:List SrvQ}(h:RJunQ w X sv pt win cv rv cis cs vs ss)(o nx:Nat)(hnx:nx<65536)(hl:(idsAt o (opJ cs)).length≤1000):Calls Tryz.prog 175 #[.pointer (some ⟨X,0,none⟩),.int .i64 (o:Int),.int .i64 (nx:Int)] w fun e w'=>e= .returned (.int .i64 (((nx+freeJ nx (idsAt o (opJ cs))) % 65536:Nat):Int))∧∃q,w'=w.drewN q:=by
 obtain⟨f1,f2,f3⟩:=freeJ_spec nx (idsAt o (opJ cs)) (by omega);have HW:Hid (∀(q id:Nat),Calls Tryz.prog 153 #[.pointer (some ⟨X,0,none⟩),.int .i64 (o:Int),.int .i64 (id:Int)] (w.drewN q) fun e w'=>RWOut cis cs (findP o id cs 0) e∧∃q',w'=w.drewN q'):=fun q id=>by
  refine(rwaitsQ (h.below (below_drewN (Below.refl _ _) q)) o id).mono ?_;rintro e w' ⟨h1,q',h2⟩;refine⟨h1,q+q',?_⟩;rw[h2,World.drewN_drewN]
 have HF:=hide' (And.intro f2 f3);generalize freeJ nx (idsAt o (opJ cs))=J at*;have h0:(nx+0) % 65536=nx:=by omega
 have hJ:J≤1000:=by omega
 clear h hl f1 f2 f3;go_enter Tryz.func175,Tryz.ntmps175;go_wp2;go_loopw [2,7,8,9] (fun i _ _ _ wr=>∃j:Nat,j≤J∧i= .int .i64 (((nx+j) % 65536:Nat):Int)∧∃q,wr=w.drewN q) (fun i _ _ _ _=>(65536+nx+J-(intOf i).toNat) % 65536)
 case atStart=>exact⟨0,Nat.zero_le _,by rw[h0],0,rfl⟩
 case round=>
  obtain⟨j,hj,rfl,q,rfl⟩:=hrel;obtain⟨id,hid⟩:∃id,(nx+j) % 65536=id:=⟨_,rfl⟩
  have HID:=hide' hid;rw[hid];clear hid;by_cases hjj:j=J
  ·have hno:findP o id cs 0=none:=(findP_ids o id).2 (by rw[←HID.out,hjj];exact HF.out.1);have HC:=HW.out q id;rw[hno]at HC;unfold RWOut at HC;simp only at HC;have HC:=hide' HC;clear hno;go_wp2_with fail
   go_at_call 153;refine HC.out.mono ?_;rintro e w1 ⟨rfl,q1,rfl⟩;go_wp2;go_ret;refine⟨?_,q1,rfl⟩;rw[←hjj,HID.out];rfl
  ·have hlt:j<J:=by omega
   obtain⟨z,hz⟩:∃z,findP o id cs 0=some z:=by
    cases hf:findP o id cs 0 with
    |none=>exact absurd (HF.out.2 j hlt) (by rw[HID.out];exact(findP_ids o id).1 hf)
    |some z=>exact⟨z,rfl⟩
   obtain⟨zi,zk,zm⟩:=z;have HC:=HW.out q id;rw[hz]at HC;unfold RWOut at HC;simp only at HC;have HC:=hide' HC;clear hz;have hidl:id<65536:=by have:=HID.out;omega
   have w1:IntKind.i64.wrap ((id:Int)+1)=(id:Int)+1:=wrap_small _ (by omega) (by omega);have w2:((id:Int)+1).tmod 65536=(((id+1) % 65536:Nat):Int):=by
    rw[show(id:Int)+1=((id+1:Nat):Int)by omega];rfl
   go_wp2_with fail
   go_at_call 153;refine HC.out.mono ?_;rintro e w1' ⟨⟨v,u,b,_,_,_,rfl⟩,q1,rfl⟩;go_wp2;go_roundw;case rel=>
    refine⟨j+1,by omega,?_,q1,rfl⟩;have:=HID.out;congr 2;first|omega|(simp;omega)
   case measure=>
    have:=HID.out;simp[intOf];omega
set_option maxHeartbeats 4000000
set_option maxRecDepth 100000
variable {sv pt X win P:Nat}{w:World}{cv rv:Value}{cis:List RCliV}{cs:List CliQ}{vs:List Nat}{ss:List SrvQ}
def RSentQ (w w':World)(X sv pt win:Nat)(cv rv:Value)(cis:List RCliV)(cs:List CliQ)(vs:List Nat)(ss':List SrvQ)(p:PS)(P:Nat):Prop:=
 w.heap.size≤P∧RJunQ w' X sv pt win cv rv cis cs vs ss'∧RPartQ w' P p∧Chg vs w w'
def sendOne (sv pt:Nat)(k:Int)(val:ByteArray)(ex:List (Nat×Nat))(ss:List SrvQ)(key:ByteArray):List SrvQ×PS:=
 match ss[ownerN sv pt key]?with
 |none=>(ss,.fl)
 |some s=>if s.up=true then
  (ss.set (ownerN sv pt key) {s with next:=(s.next+freeJ s.next (idsAt (ownerN sv pt key) ex)+1) % 65536,sent:=s.sent++(sentB k key val ((s.next+freeJ s.next (idsAt (ownerN sv pt key) ex)) % 65536)).data.toList},
   .op (ownerN sv pt key) ((s.next+freeJ s.next (idsAt (ownerN sv pt key) ex)) % 65536))
  else(ss,.fl)
theorem sendK_one {n:Nat}{k:Int}{val:ByteArray}{ex:List (Nat×Nat)}{st:List SrvQ×List PS}{key:ByteArray}(hb:Behind n st)(hn:n≤1000)(he:ex.length≤1000)(hp:st.2.length≤1000)(hnx:∀s∈st.1,s.next<65536):sendK sv pt k val ex st key=((sendOne sv pt k val ex st.1 key).1,st.2++[(sendOne sv pt k val ex st.1 key).2]):=by
 unfold sendK sendOne;cases hs:st.1[ownerN sv pt key]?with
 |none=>rfl
 |some s=>
  simp only
  by_cases hup:s.up=true
  ·rw[if_pos hup,if_pos hup];have h1:=idsAt_len (ownerN sv pt key) ex;have h2:=idsAt_len (ownerN sv pt key) (opPs st.2);have h3:=opPs_len st.2;rw[free_skip (hnx s (List.mem_of_getElem? hs)) (by omega) (by omega) (hb.ids hn hs)]
  ·rw[if_neg hup,if_neg hup]
theorem RSentQ.undrew {w':World}{p:PS}(h:RSentQ w.drew w' X sv pt win cv rv cis cs vs ss p P):RSentQ w w' X sv pt win cv rv cis cs vs ss p P:=by
 obtain⟨h1,h2,h3,h4⟩:=h;exact⟨h1,h2,h3,Chg.undrew h4⟩
theorem sentQ_fin {W5:World}(h:RJunQ w X sv pt win cv rv cis cs vs ss){o S id:Nat}{s:SrvQ}{t:List UInt8}(hS:vs[o]?=some S)(hs:ss[o]?=some s)(hP:w.heap.size≤P)(hPS:P≠S)(k5:Chg [S] w W5)(nx5:Int)(h5:W5.heap[S]?=some (rsO s.up nx5 (mkB s.held) s.sent))(hp:W5.heap[P]?=some (rpO o id 0 0 ⟨#[]⟩))(v1:Value)(hid:id<65536)(hv1:v1= .int .i64 (((id+1) % 65536:Nat):Int)):RSentQ w ((W5.setCell ⟨S,3,none⟩ (.string (mkB t))).setCell ⟨S,1,none⟩ v1) X sv pt win cv rv cis cs vs (ss.set o {s with next:=(id+1) % 65536,sent:=t}) (.op o id) P:=by
 have hol:=(List.getElem?_eq_some_iff.1 hs).1;have kk:Chg [S] w ((W5.setCell ⟨S,3,none⟩ (.string (mkB t))).setCell ⟨S,1,none⟩ v1):=(k5.set (.inl (by simp)) _).set (.inl (by simp)) _;have hn:((W5.setCell ⟨S,3,none⟩ (.string (mkB t))).setCell ⟨S,1,none⟩ v1).heap[S]?=some (rsO s.up (((id+1) % 65536:Nat):Int) (mkB s.held) t):=by
  subst hv1;exact(blkSet (i:=1) (blkSet (i:=3) h5 _) _).trans rfl
 have kv:Chg vs w ((W5.setCell ⟨S,3,none⟩ (.string (mkB t))).setCell ⟨S,1,none⟩ v1):=kk.more (fun x hx=>by simp at hx;rw[hx];exact List.mem_of_getElem? hS);refine⟨hP,h.srvs kv (fun j S1 s1 hS1 hs1=>?_) (by simp) (fun u hu=>?_),hs_set (hs_set hp hPS) hPS,kv⟩
 ·rw[List.getElem?_set]at hs1;split at hs1
  ·rename_i e;subst e;simp at hs1;subst hs1;rw[hS]at hS1;cases hS1;exact hn
  ·rename_i e;have h1:=h.srv j S1 s1 hS1 hs1;refine(kk.block S1 (blkLt h1) (fun e2=>?_)).trans h1;simp at e2;subst e2;exact e ((List.getElem?_inj (List.getElem?_eq_some_iff.1 hS).1 h.sap).1 (hS.trans hS1.symm))
 ·rcases List.mem_or_eq_of_mem_set hu with h1|h1
  ·exact h.nx u h1
  ·rw[h1];exact Nat.mod_lt _ (by decide)
theorem rsendsQ (h:RJunQ w X sv pt win cv rv cis cs vs ss)(hl:(opJ cs).length≤1000)(c:Cmd)(kv:Value)(key:ByteArray)(hcb:cmdB c.kind [key] c.val=true)(hbd:∀u∈ss,u.sent.length≤100000000000):Calls Tryz.prog 167 #[.pointer (some ⟨X,0,none⟩),cmdVR c kv,.string key] w fun e w'=>∃P,e= .returned (.pointer (some ⟨P,0,none⟩))∧RSentQ w w' X sv pt win cv rv cis cs vs (sendOne sv pt c.kind c.val (opJ cs) ss key).1 (sendOne sv pt c.kind c.val (opJ cs) ss key).2 P:=by
 obtain⟨hkk,_,_,hk8,hv40⟩:=cmdB_in hcb;have hk8:=hk8 key (by simp);have ho:=ownerN_lt sv pt key h.s1;unfold sendOne;generalize hon:ownerN sv pt key=o at*;obtain⟨S,hS⟩:∃S,vs[o]?=some S:=⟨_,List.getElem?_eq_getElem (by rw[h.len];exact ho)⟩
 obtain⟨s,hs⟩:∃s,ss[o]?=some s:=⟨_,List.getElem?_eq_getElem (by rw[h.sl];exact ho)⟩
 simp only[hs]
 have hSb:=h.srv o S s hS hs;have hnx:=h.nx s (List.mem_of_getElem? hs);have hsl:=hbd s (List.mem_of_getElem? hs);have HOw:Hid (∀W,Calls Tryz.prog 138 #[.int .i64 (sv:Int),.int .i64 (pt:Int),.string key] W fun e w'=>e= .returned (.int .i64 ((o:Nat):Int))∧∃q,w'=W.drewN q):=fun W=>by
  have:=refowner_any sv pt key W h.s1 h.s4 h.p1 h.pt_ (by unfold maxLen;omega);rw[hon]at this;exact this
 obtain⟨g,cap,hrv,hgl,hgc⟩:=row_at h.srow (by simp) (i:=o) (x:=ptrV S) (by rw[List.getElem?_map,hS];rfl);unfold ptrV at hgc;have hX:=h.blk;unfold rjO at hX;have x0:=blkCell hX 0;have x1:=blkCell hX 1;have x4:=blkCell hX 4;simp at x0 x1 x4;rw[hrv,h.len]at x4;have hlX:=blkLt hX;have hs4:=h.s4;have hSb2:=hSb;unfold rsO at hSb2;have s0:=blkCell hSb2 0;have s1:=blkCell hSb2 1;have s3:=blkCell hSb2 3;simp at s0 s1 s3;have sf:=blkFree hSb2;have hlS:=blkLt hSb2;have hSX:¬S=X:=fun e=>by rw[e,hX]at hSb2;cases hSb2
 have hSg:¬S=g:=fun e=>by
  obtain⟨cur,hc⟩:=ownsRow_blk h.srow (v:=rv) (by rw[hrv];rfl);rw[←e,hSb2]at hc;cases hc
 unfold cmdVR;by_cases hup:s.up=true
 ·rw[if_pos hup];simp only
  rw[hup]at s0;have hidl:=idsAt_len o (opJ cs);have HFr:Hid (∀W,Below w.heap.size w W→Calls Tryz.prog 175 #[.pointer (some ⟨X,0,none⟩),.int .i64 (o:Int),.int .i64 (s.next:Int)] W fun e w'=>e= .returned (.int .i64 (((s.next+freeJ s.next (idsAt o (opJ cs))) % 65536:Nat):Int))∧∃q,w'=W.drewN q):=fun W hW=>rfreeQ (h.below hW) o s.next hnx (by omega)
  obtain⟨id,hid⟩:∃id,(s.next+freeJ s.next (idsAt o (opJ cs))) % 65536=id:=⟨_,rfl⟩
  have hid2:(s.next+freeJ s.next (idsAt o (opJ cs))+1) % 65536=(id+1) % 65536:=by omega
  have hidl:id<65536:=by omega
  rw[hid]at HFr⊢;rw[hid2];have hout:(sentB c.kind key c.val id).size≤1000:=by
   have:=sentB_size c.kind key c.val id hk8 hv40;rw[len_size]at this;exact this
  have HAs:Hid (∀(W:World) (b:Nat),W.heap[b]?=some (.cells #[.string key] 9 (0,0))→Calls Tryz.prog 101 #[.int .i64 2,.agg #[.int .i64 c.kind,.slice (some ⟨b,0,none⟩) 1 1,.string c.val,.string ⟨#[]⟩,.bool false,.int .i64 0],.int .i64 (id:Int)] W fun e w'=>e= .returned (.tuple #[.string (sentB c.kind key c.val id),.int .i64 0])∧Below W.heap.size W w'):=fun W b hb=>by
   have hSt:StrsIn W (some ⟨b,0,none⟩) 1 1 [key]:=⟨rfl,Nat.le_refl _,by simp,by simp;unfold maxLen;omega,.inl ⟨b,0,rfl,blkLt hb,fun i x hx=>by
    cases i with
    |zero=>simp at hx;rw[←hx];exact blkCell hb 0
    |succ i=>simp at hx⟩⟩
   have hvm:c.val.size≤maxLen:=by unfold maxLen;omega
   have hfr:frSayB c.kind 1 (id:Int)=true:=by
    unfold frSayB;simp;omega
   rw[←askS_sent];have hcb':=hcb;rcases hkk with e|e|e
   ·rw[e]at hcb' hfr⊢;exact refask2_1 b 0 1 key c.val ⟨#[]⟩ false 0 (id:Int) W hSt hvm hcb' hfr (blkLt hb) (Nat.le_refl _) (blkCell hb 0)
   ·rw[e]at hcb' hfr⊢;exact refask2_2 b 0 1 key c.val ⟨#[]⟩ false 0 (id:Int) W hSt hvm hcb' hfr (blkLt hb) (Nat.le_refl _) (blkCell hb 0)
   ·rw[e]at hcb' hfr⊢;exact refask2_3 b 0 1 key c.val ⟨#[]⟩ false 0 (id:Int) W hSt hvm hcb' hfr (blkLt hb) (Nat.le_refl _) (blkCell hb 0)
  have HFin:Hid (∀(W5:World) (P:Nat) (v1:Value),w.heap.size≤P→P≠S→Chg [S] w W5→W5.heap[S]?=some (rsO s.up (id:Int) (mkB s.held) s.sent)→W5.heap[P]?=some (rpO o id 0 0 ⟨#[]⟩)→v1= .int .i64 (((id+1) % 65536:Nat):Int)→RSentQ w ((W5.setCell ⟨S,3,none⟩ (.string (mkB (s.sent++(sentB c.kind key c.val id).data.toList)))).setCell ⟨S,1,none⟩ v1) X sv pt win cv rv cis cs vs (ss.set o {s with next:=(id+1) % 65536,sent:=s.sent++(sentB c.kind key c.val id).data.toList}) (.op o id) P):=fun W5 P v1 h1 h2 h3 h4 h5 h6=>sentQ_fin h hS hs h1 h2 h3 _ h4 h5 v1 hidl h6
  have HMk:=hide' (mkB_app s.sent (sentB c.kind key c.val id));have HSb:=hide' hSb;have hsz:=mkB_size s.sent;clear h hbd hcb hSb hSb2 hX hS hs hk8 hrv hkk hid hid2 hl;generalize hout':sentB c.kind key c.val id=out at*;generalize hmk:mkB s.sent=sB at*;go_enter Tryz.func167,Tryz.ntmps167;go_wp2_with fail
  go_quiet ((go_at_call 138;exact Calls.quiet_of (HOw.out _)))
  go_wp2_with fail
  go_at_call 175;refine(HFr.out _ ?_).mono ?_
  ·exact(below_drewN ((Below.refl _ _).alloc (Nat.le_refl _) _) _).alloc (by simp) _
  rintro e w1 ⟨rfl,q1,rfl⟩;have hSn1:¬S=w.heap.size:=by omega
  have hSn2:¬S=w.heap.size+1:=by omega
  have hSn3:¬w.heap.size+1=S:=by omega
  have hSn4:¬w.heap.size=S:=by omega
  have hlS1:S<w.heap.size+1:=by omega
  clear HFr HOw;go_wp2_with fail
  have hA:(w.alloc (.cells #[.int .i64 c.kind,kv,.string c.val,.string c.word,.bool c.fatal,.int .i64 c.id] 36)).heap[w.heap.size]?=some (.cells #[.int .i64 c.kind,kv,.string c.val,.string c.word,.bool c.fatal,.int .i64 c.id] 36 (0,0)):=blkNew w _;have hS0:(w.alloc (.cells #[.int .i64 c.kind,kv,.string c.val,.string c.word,.bool c.fatal,.int .i64 c.id] 36)).heap[S]?=some (rsO s.up s.next (mkB s.held) s.sent):=hs_alloc HSb.out _;have hk0:Chg [S] w (w.alloc (.cells #[.int .i64 c.kind,kv,.string c.val,.string c.word,.bool c.fatal,.int .i64 c.id] 36)):=Chg.of_below ((Below.refl _ _).alloc (Nat.le_refl _) _);have hz0:(w.alloc (.cells #[.int .i64 c.kind,kv,.string c.val,.string c.word,.bool c.fatal,.int .i64 c.id] 36)).heap.size=w.heap.size+1:=by simp
  generalize w.alloc (.cells #[.int .i64 c.kind,kv,.string c.val,.string c.word,.bool c.fatal,.int .i64 c.id] 36)=Wa at*;have hz1:¬w.heap.size=w.heap.size+1:=by omega
  obtain⟨PO,hPO⟩:∃PO,PO=Obj.cells #[.int .i64 (o:Int),.int .i64 0,.int .i64 0,.int .i64 0,.string ⟨#[]⟩] 253:=⟨_,rfl⟩
  rw[←hPO];have hA4:(((((Wa.drewN nq).alloc PO).drewN q1).setCell ⟨S,1,none⟩ (.int .i64 (id:Int))).setCell ⟨w.heap.size+1,1,none⟩ (.int .i64 (id:Int))).heap[w.heap.size]?=some (.cells #[.int .i64 c.kind,kv,.string c.val,.string c.word,.bool c.fatal,.int .i64 c.id] 36 (0,0)):=hs_set (p:=⟨w.heap.size+1,1,none⟩) (hs_set (p:=⟨S,1,none⟩) (hs_drewN (hs_alloc (hs_drewN hA _) _) _) hSn4) hz1;have hS4:(((((Wa.drewN nq).alloc PO).drewN q1).setCell ⟨S,1,none⟩ (.int .i64 (id:Int))).setCell ⟨w.heap.size+1,1,none⟩ (.int .i64 (id:Int))).heap[S]?=some (rsO s.up id (mkB s.held) s.sent):=hs_set (p:=⟨w.heap.size+1,1,none⟩) ((blkSet (i:=1) (hs_drewN (hs_alloc (hs_drewN hS0 nq) PO) q1) _).trans rfl) hSn2;have hP3:((Wa.drewN nq).alloc PO).heap[w.heap.size+1]?=some PO:=hs_new (by simp[hz0])
  have hP4:(((((Wa.drewN nq).alloc PO).drewN q1).setCell ⟨S,1,none⟩ (.int .i64 (id:Int))).setCell ⟨w.heap.size+1,1,none⟩ (.int .i64 (id:Int))).heap[w.heap.size+1]?=some (rpO o id 0 0 ⟨#[]⟩):=by
   rw[hPO]at hP3⊢;exact(blkSet (i:=1) (hs_set (p:=⟨S,1,none⟩) (hs_drewN hP3 _) hSn3) _).trans rfl
  have hk4:Chg [S] w (((((Wa.drewN nq).alloc PO).drewN q1).setCell ⟨S,1,none⟩ (.int .i64 (id:Int))).setCell ⟨w.heap.size+1,1,none⟩ (.int .i64 (id:Int))):=by
   have k1:Chg [S] w (Wa.drewN nq):=⟨hk0.os,hk0.tape,hk0.output,hk0.size,hk0.block⟩
   have k2:Chg [S] w ((Wa.drewN nq).alloc PO):=k1.trans (Chg.of_below (M:=[]) ((Below.refl _ _).alloc (Nat.le_refl _) _)) (fun b hb=>by cases hb);have k3:Chg [S] w (((Wa.drewN nq).alloc PO).drewN q1):=⟨k2.os,k2.tape,k2.output,k2.size,k2.block⟩
   exact(k3.set (.inl (by simp)) _).set (.inr (by show w.heap.size≤w.heap.size+1;omega)) _
  clear x0 x1 x4 hgc s0 s1 s3 sf hA hS0 hk0 hz0 hlX hgl hlS hlS1 hSX hSg hP3;generalize ((((Wa.drewN nq).alloc PO).drewN q1).setCell ⟨S,1,none⟩ (.int .i64 (id:Int))).setCell ⟨w.heap.size+1,1,none⟩ (.int .i64 (id:Int))=W4 at*;have a0:=blkCell hA4 0;have a2:=blkCell hA4 2;have hSb4:=hS4;unfold rsO at hSb4;have s1:=blkCell hSb4 1;simp at a0 a2 s1;have hlA:=blkLt hA4;have hlS:=blkLt hS4;have hlP:=blkLt hP4;have HW4:=hide' (And.intro hS4 (And.intro hP4 hk4));clear hS4 hP4 hk4 hA4 hSb4 hPO;go_region_held3 (fun W'=>W'.cell? ⟨w.heap.size,0,none⟩=some (.int .i64 c.kind)∧W'.cell? ⟨w.heap.size,2,none⟩=some (.string c.val)∧W'.cell? ⟨S,1,none⟩=some (.int .i64 (id:Int))) (go_keep) (first
   |(go_at_call 101;refine(HAs.out _ W4.heap.size ?hx).mono ?_;(case hx=>first|exact hs_drew (hs_new rfl)|exact hs_new rfl);rintro e w5 ⟨rfl,hb5⟩;have a05:w5.cell? ⟨w.heap.size,0,none⟩=some (.int .i64 c.kind):=(hb5.cell (p:=⟨w.heap.size,0,none⟩) (by simp;omega)).trans ((World.cell?_of_block (Below.heap_alloc _ _ _ hlA)).trans a0);have a25:w5.cell? ⟨w.heap.size,2,none⟩=some (.string c.val):=(hb5.cell (p:=⟨w.heap.size,2,none⟩) (by simp;omega)).trans ((World.cell?_of_block (Below.heap_alloc _ _ _ hlA)).trans a2);have s15:w5.cell? ⟨S,1,none⟩=some (.int .i64 (id:Int)):=(hb5.cell (p:=⟨S,1,none⟩) (by simp;omega)).trans ((World.cell?_of_block (Below.heap_alloc _ _ _ hlS)).trans s1);have hb45:Below W4.heap.size W4 w5:=((Below.refl _ W4).alloc (Nat.le_refl _) _).trans ((below_undrew hb5).mono (by simp));have HB5:=hide' hb45;clear hb5 hb45 a0 a2 s1)
   |fail)
  all_goals
   have hS5:w5.heap[S]?=some (rsO s.up id (mkB s.held) s.sent):=(HB5.out.block S hlS).trans HW4.out.1
   have hP5:w5.heap[w.heap.size+1]?=some (rpO o id 0 0 ⟨#[]⟩):=(HB5.out.block _ hlP).trans HW4.out.2.1
   have hk5:Chg [S] w w5:=HW4.out.2.2.trans (Chg.of_below (M:=[]) HB5.out) (fun b hb=>by cases hb)
   have hSb5:=hS5
   unfold rsO at hSb5
   have s35:=blkCell hSb5 3
   simp at s35
   rw[hmk]at s35
   have sf5:=blkFree hSb5
   have hlS5:=blkLt hS5
   have wr1:IntKind.i64.wrap ((id:Int)+1)=(id:Int)+1:=wrap_small _ (by omega) (by omega)
   have hrem:((id:Int)+1).tmod 65536=(((id+1) % 65536:Nat):Int):=by
    rw[show(id:Int)+1=((id+1:Nat):Int)by omega];rfl
   have HG:=hide' (fun v1=>HFin.out w5 (w.heap.size+1) v1 (Nat.le_succ _) hSn3 hk5 hS5 hP5)
   clear hS5 hP5 hk5 hSb5 HFin a05 a25
   go_wp2
   go_ret
   refine⟨_,rfl,?_⟩
   rw[HMk.out]
   refine HG.out _ ?_
   first|rfl|(simp;omega)|go_num
 ·rw[if_neg hup];simp only
  have hup':s.up=false:=by simpa using hup
  rw[hup']at s0;have HFin:Hid (∀(W5:World),Below w.heap.size w W5→W5.heap[w.heap.size+1]?=some (rpO o 0 2 0 ⟨#[]⟩)→RSentQ w W5 X sv pt win cv rv cis cs vs ss .fl (w.heap.size+1)):=fun W5 hb hp=>⟨Nat.le_succ _,h.below hb,⟨o,0,hp⟩,Chg.of_below hb⟩
  have HBe:Hid (∀O1 O2 q,Below w.heap.size w (((w.alloc O1).drewN q).alloc O2)):=fun O1 O2 q=>(below_drewN ((Below.refl _ _).alloc (Nat.le_refl _) _) _).alloc (by simp) _
  clear h hbd hcb hSb hSb2 hX hS hs hk8 hrv hkk hl;go_enter Tryz.func167,Tryz.ntmps167;go_wp2_with fail
  go_quiet ((go_at_call 138;exact Calls.quiet_of (HOw.out _)))
  go_wp2;go_ret;exact⟨_,rfl,HFin.out _ (HBe.out _ _ _) (hs_new (by simp))⟩
end Go.Proofs.YtlonjggfnleolaaGreatDoor
