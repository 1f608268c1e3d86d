import Derived.Test.YtlonjggfnleolaaGreatDoorBnE
namespace Go.Proofs.YtlonjggfnleolaaGreatDoor
open Go.RowKit Go.Shelf
set_option linter.unusedVariables false
set_option maxHeartbeats 2000000
set_option maxRecDepth 100000
theorem sendDown_any (S nx m C q i:Nat)(iv:Value)(iu:Int)(ip ic:Bool)(bp bv:Value)(k:Int)(kv:Value)(val wd:ByteArray)(ft:Bool)(cid:Int)(n:Nat)(fa re:Bool)(yv vv:Value)(w:World)(hS:w.heap[S]?=some (svO true nx m iv iu ip ic bp bv))(hq:w.heap[q]?=some (quO k kv val wd ft cid ((n+1:Nat):Int) fa re yv vv))(hn:n≤1000):Calls Tryz.prog 132 #[.pointer (some ⟨S,0,none⟩),partV C q i] w fun e w'=>e= .returned (.tuple #[])∧w'.heap[q]?=some (quO k kv val wd ft cid (n:Int) true re yv vv)∧Chg [q] w w':=by
 have c0:=(svCells hS).1;have hlt:=blkLt hS;have hSn:¬S=w.heap.size:=by omega
 have hB:Hid (∀O,Below w.heap.size w (w.alloc O)):=fun O=>(Below.refl _ _).alloc (Nat.le_refl _) O
 have HQ:=hide' (fun O=>qfail_any q k kv val wd ft cid n fa re yv vv (w.alloc O) (((hB.out O).block q (blkLt hq)).trans hq) hn);clear hS hq;unfold partV;go_enter Tryz.func132,Tryz.ntmps132;go_wp2_with fail
 go_at_call 136;refine(HQ.out _).mono ?_;rintro e w1 ⟨rfl,h1,k1⟩;have H1:=hide' (And.intro h1 k1);clear h1 k1;go_wp2;((try simp only[Exit.inBlock,Exit.then]);refine bodyPost_ret (results_none rfl _ _ _) rfl ?_)
 exact⟨rfl,H1.out.1,⟨H1.out.2.os,H1.out.2.tape,H1.out.2.output,Nat.le_trans (hB.out _).size H1.out.2.size,fun b hb hn=>(H1.out.2.block b (Nat.lt_of_lt_of_le hb (hB.out _).size) hn).trans ((hB.out _).block b hb)⟩⟩
theorem sendUp_any (S nx m j0 C q kb kn kc i:Nat)(iv:Value)(iu:Int)(ip ic:Bool)(bp bv:Value)(bs:List UInt8)(l:List (Nat×Value))(k:Int)(val wd key:ByteArray)(ft:Bool)(cid:Int)(n:Int)(fa re:Bool)(yv vv:Value)(w:World)(hS:w.heap[S]?=some (svO false nx m iv iu ip ic bp bv))(hnx:nx<65536)(hm:MapS w m l)(hv:∀p∈l,∃C q i,p.2=partV C q i)(hk0:∀p∈l,p.1≠(nx+j0) % 65536)(hy:∀j,j<j0→∃p∈l,p.1=(nx+j) % 65536)(hq:w.heap[q]?=some (quO k (.slice (some ⟨kb,0,none⟩) kn kc) val wd ft cid n fa re yv vv))(hi:i<kn)(hkc:kn≤kc)(hkm:kn≤1000000)(hkb:∃Z,w.heap[kb]?=some (.cells Z 9 (0,0)))(hkey:w.cell? ⟨kb,i,none⟩=some (.string key))(hk:k=1∨k=2∨k=3)(hks:key.size≤8)(hvs:val.size≤40)(hbp:bp= .pointer none∨bp= .pointer (some ⟨S,7,none⟩))(hR:BldRow w bv bs)(hlen:bs.length+1000≤140737488355328):Calls Tryz.prog 132 #[.pointer (some ⟨S,0,none⟩),partV C q i] w fun e w'=>e= .returned (.tuple #[])∧∃bv',w'.heap[S]?=some (svO false ((nx+j0+1) % 65536) m iv iu ip ic (.pointer (some ⟨S,7,none⟩)) bv')∧MapS w' m (l++[((nx+j0) % 65536,partV C q i)])∧BldRow w' bv' (bs++(sentB k key val ((nx+j0) % 65536)).data.toList)∧Chg (S::m::bv.ownBlock.toList) w w'∧(bv'.ownBlock=bv.ownBlock∨∃g,bv'.ownBlock=some g∧w.heap.size≤g):=by
 obtain⟨O1,hO1⟩:∃O,O=Obj.cells #[.pointer (some ⟨C,0,none⟩),.pointer (some ⟨q,0,none⟩),.int .i64 (i:Int)] 222:=⟨_,rfl⟩
 have B0:Below w.heap.size w (w.alloc O1):=(Below.refl _ _).alloc (Nat.le_refl _) _;have hX:=blkNew w O1;have hS1:=(B0.block S (blkLt hS)).trans hS;have hm1:=hm.other (B0.block m hm.lt);have c0:=(svCells hS).1;have hlt:=blkLt hS;have hSn:¬S=w.heap.size:=by omega
 have HFr:=hide' (freeID_any S nx m j0 false iv iu ip ic bp bv l (w.alloc O1) hS1 hnx hm1.at_ hv hk0 hy);have HW:=hide' (And.intro B0 (And.intro hX (And.intro hS1 (And.intro hm1 (And.intro hS (And.intro hm (And.intro hq (And.intro hkb (And.intro hkey hR)))))))));obtain⟨id,hid⟩:∃id,(nx+j0) % 65536=id:=⟨_,rfl⟩
 obtain⟨nx2,hnx2⟩:∃nx2,(nx+j0+1) % 65536=nx2:=⟨_,rfl⟩
 have hidl:id<65536:=by omega
 rw[hid]at HFr hk0⊢;rw[hnx2]at HFr⊢;have HK:=hide' (And.intro hk0 hv);clear hid hnx2 hy hk0 hv B0 hX hS1 hm1 hS hm hq hkb hkey hR;unfold partV;go_enter Tryz.func132,Tryz.ntmps132;go_wp2_with fail
 rw[←hO1];obtain⟨w0,hw0⟩:∃w0,w.alloc O1=w0:=⟨_,rfl⟩
 rw[hw0]at HFr HW⊢;go_at_call 160;refine HFr.out.mono ?_;rintro e w1 ⟨rfl,hS2,k2⟩;obtain⟨B0,hX,hS1,hm1,hS,hm,hq,hkb,hkey,hR⟩:=HW.out;have hXS:w.heap.size≠S:=fun e=>hSn e.symm
 have hmS:m≠S:=fun e=>by
  obtain⟨es,clock,h1,_⟩:=hm;rw[e,hS]at h1;unfold svO at h1;cases h1
 have hX2:=k2.keep hX (by simpa using hXS);rw[hO1]at hX2;have hm2:=hm1.other (k2.block m hm1.lt (by simpa using hmS));obtain⟨w2,hup,hm3,k3,hs3⟩:=MapS.update w1.drew m id (partV C q i) l hm2 HK.out.1;have hmX:m≠w.heap.size:=fun e=>by
  obtain⟨es,clock,h1,_⟩:=hm2;rw[e,hX2]at h1;cases h1
 have hX3:=k3.keep hX2 (by simpa using fun e=>hmX e.symm);have hS3:=k3.keep hS2 (by simpa using fun e=>hmS e.symm);have d2:=(svCells hS2).2.2.1;have x0:=blkCell hX2 0;have x1:=blkCell hX2 1;have x2:=blkCell hX2 2;simp at x0 x1 x2;have hl2:=blkLt hS2;have hlX:=blkLt hX2;have k2':Chg [S] w w1:=⟨k2.os.trans B0.os,k2.tape.trans B0.tape,k2.output.trans B0.output,Nat.le_trans B0.size k2.size,fun b hb hn=>(k2.block b (Nat.lt_of_lt_of_le hb B0.size) hn).trans (B0.block b hb)⟩
 have H3:=hide' (And.intro k2' (And.intro hX3 (And.intro hS3 (And.intro hm3 (And.intro k3 (And.intro hmS hs3))))));have mixed:Tryz.prog.follows .mixedOrders=true:=by kernel_rfl
 unfold partV at hup;have hqS:q≠S:=fun e=>by rw[e,hS]at hq;unfold quO svO at hq;cases hq
 have hqm:q≠m:=fun e=>by obtain⟨es,clock,h1,_⟩:=hm;rw[e,h1]at hq;unfold quO at hq;cases hq
 have two:∀{b:Nat} {o:Obj},w.heap[b]?=some o→b≠S→b≠m→w2.heap[b]?=some o:=fun hb h1 h2=>k3.keep (a:=w1.drew) (k2'.keep hb (by simpa using h1)) (by simpa using h2)
 have hq3:=two hq hqS hqm;obtain⟨Zk,hZk⟩:=hkb;have hkS:kb≠S:=fun e=>by rw[e,hS]at hZk;unfold svO at hZk;cases hZk
 have hkm':kb≠m:=fun e=>by obtain⟨es,clock,h1,_⟩:=hm;rw[e,h1]at hZk;cases hZk
 have hZ3:=two hZk hkS hkm';have hkey3:w2.cell? ⟨kb,i,none⟩=some (.string key):=(World.cell?_of_block (a:=⟨kb,i,none⟩) (hZ3.trans hZk.symm)).trans hkey;have hRS:bv.ownBlock≠some S∧bv.ownBlock≠some m:=by
  refine⟨fun e=>?_,fun e=>?_⟩
  ·obtain⟨cur,fz,hc⟩:=hR.blk e;rw[hS]at hc;unfold svO at hc;cases hc
  ·obtain⟨cur,fz,hc⟩:=hR.blk e;obtain⟨es,clock,h1,_⟩:=hm;rw[h1]at hc;cases hc
 have hR3:BldRow w2 bv bs:=hR.other (fun g hg=>by
  obtain⟨cur,fz,hc⟩:=hR.blk hg;exact(two hc (fun e=>hRS.1 (by rw[hg,e])) (fun e=>hRS.2 (by rw[hg,e]))).trans hc.symm)
 have HPc:Hid (∀W,Below w2.heap.size w2 W→Calls Tryz.prog 162 #[partV C q i] W fun e w'=>∃b',W.heap.size≤b'∧e= .returned (.agg #[.int .i64 k,.slice (some ⟨b',0,none⟩) 1 1,.string val,.string ⟨#[]⟩,.bool false,.int .i64 0])∧w'.heap[b']?=some (.cells #[.string key] 9 (0,0))∧Below W.heap.size W w'):=fun W hW=>
  partCommand_any C q kb kn kc i k val wd key ft cid n fa re yv vv W ((hW.block q (blkLt hq3)).trans hq3) hi hkc hkm ((hW.cell (p:=⟨kb,i,none⟩) (blkLt hZ3)).trans hkey3)
 have HTs:=hide' (fun(W:World) (b:Nat) (hb:W.heap[b]?=some (.cells #[.string key] 9 (0,0)))=>toServer_any k b key val id W hk hb hks hvs hidl);have hsl:(sentB k key val id).size≤1000:=by
  have h7:(headB 1 k key.size val.size id).size=7:=by unfold headB;rw[strOfNums_size];rfl
  have:(sentB k key val id).size=(headB 1 k key.size val.size id).size+key.size+val.size:=by unfold sentB;rw[ByteArray.size_append,ByteArray.size_append]
  omega
 have hXn:w.heap.size∉S::bv.ownBlock.toList:=by
  intro hm';rcases List.mem_cons.1 hm' with h|h
  ·exact hXS h
  ·have hb':bv.ownBlock=some w.heap.size:=by
    cases hbo:bv.ownBlock with
    |none=>rw[hbo]at h;cases h
    |some g=>rw[hbo]at h;simp at h;rw[h]
   obtain⟨cur,fz,hc⟩:=hR.blk hb';have:=blkLt hc;omega
 have hmn:m∉S::bv.ownBlock.toList:=by
  intro hm';rcases List.mem_cons.1 hm' with h|h
  ·exact hmS h
  ·cases hbo:bv.ownBlock with
   |none=>rw[hbo]at h;cases h
   |some g=>rw[hbo]at h;simp at h;exact hRS.2 (by rw[hbo,h])
 have HBw:Hid (∀W,Below w2.heap.size w2 W→Calls Tryz.prog 128 #[.pointer (some ⟨S,7,none⟩),.string (sentB k key val id)] W fun e w'=>(∃v,e= .returned v)∧∃v',w'.heap[S]?=some (svO false nx2 m iv iu ip ic (.pointer (some ⟨S,7,none⟩)) v')∧BldRow w' v' (bs++(sentB k key val id).data.toList)∧Chg (S::bv.ownBlock.toList) W w'∧(v'.ownBlock=bv.ownBlock∨∃g,v'.ownBlock=some g∧W.heap.size≤g)):=fun W hW=>by
  refine(bld_write S 7 143 9 _ bv bs (sentB k key val id) W ((hW.block S (blkLt hS3)).trans hS3) rfl (by omega) lies143 (by decide) ?_ rfl (hR3.other (fun g hg=>by obtain⟨cur,fz,hc⟩:=hR3.blk hg;exact hW.block g (blkLt hc))) (by omega)).mono ?_
  ·rcases hbp with h|h
   ·exact .inl (by rw[h];rfl)
   ·exact .inr (by rw[h];rfl)
  ·rintro e w' ⟨he,v',h1,h2,h3,h4⟩;exact⟨he,v',h1,h2,h3,h4⟩
 have y0:=blkCell hX3 0;have y1:=blkCell hX3 1;have y2:=blkCell hX3 2;simp at y0 y1 y2;have hlX3:=blkLt hX3;have hlS3:=blkLt hS3;have hwid:=wrapid id hidl;clear B0 hX hS1 hm1 hS hm hq hkey hR hX2 hm2 hX3 hS3 hS2 k2 k2' k3 hm3 c0 two hq3 hZk hZ3 hkey3 hR3 hqS hqm hkS hkm';generalize hout:sentB k key val id=out at*;have HOUT:=hide' hout;clear hout;go_wp2;go_region
 go_wp2_with fail
 unfold partV at HPc;go_region_held3 (fun W'=>W'.cell? ⟨w.heap.size,0,none⟩=some (.pointer (some ⟨C,0,none⟩))∧W'.cell? ⟨w.heap.size,1,none⟩=some (.pointer (some ⟨q,0,none⟩))∧W'.cell? ⟨w.heap.size,2,none⟩=some (.int .i64 (i:Int))) (go_keep) (first
  |(go_at_call 162;refine(HPc.out _ ?hx).mono ?_;(case hx=>repeat(first|with_reducible exact Below.refl _ _|with_reducible refine Below.drew ?_));rintro e w3 ⟨b',hb',rfl,hbk,hb3⟩;have HB3:=hide' (And.intro (below_undrew hb3) hbk);have z0:=(HB3.out.1.cell (p:=⟨w.heap.size,0,none⟩) hlX3).trans y0;have z1:=(HB3.out.1.cell (p:=⟨w.heap.size,1,none⟩) hlX3).trans y1;have z2:=(HB3.out.1.cell (p:=⟨w.heap.size,2,none⟩) hlX3).trans y2;have hlX4:w.heap.size<w3.heap.size:=Nat.lt_of_lt_of_le hlX3 HB3.out.1.size;have hlS4:S<w3.heap.size:=Nat.lt_of_lt_of_le hlS3 HB3.out.1.size;clear hb3 hbk hb' y0 y1 y2)
  |(go_at_call 161;refine(HTs.out _ b' ?hx).mono ?_;(case hx=>exact HB3.out.2);rintro e w4 ⟨rfl,hb4⟩;have HB4:=hide' hb4;have u0:=(HB4.out.cell (p:=⟨w.heap.size,0,none⟩) hlX4).trans z0;have u1:=(HB4.out.cell (p:=⟨w.heap.size,1,none⟩) hlX4).trans z1;have u2:=(HB4.out.cell (p:=⟨w.heap.size,2,none⟩) hlX4).trans z2;clear hb4 z0 z1 z2)
  |(go_at_call 128;refine(HBw.out _ ?hx).mono ?_;(case hx=>exact HB3.out.1.trans (HB4.out.mono HB3.out.1.size));rintro e w5 ⟨⟨ev,rfl⟩,v',h1,h2,h3,h4⟩;have H5:=hide' (And.intro h1 (And.intro h2 (And.intro h3 h4)));have t0:=(World.cell?_of_block (a:=⟨w.heap.size,0,none⟩) (h3.block w.heap.size (Nat.lt_of_lt_of_le hlX4 HB4.out.size) hXn)).trans u0;have t1:=(World.cell?_of_block (a:=⟨w.heap.size,1,none⟩) (h3.block w.heap.size (Nat.lt_of_lt_of_le hlX4 HB4.out.size) hXn)).trans u1;have t2:=(World.cell?_of_block (a:=⟨w.heap.size,2,none⟩) (h3.block w.heap.size (Nat.lt_of_lt_of_le hlX4 HB4.out.size) hXn)).trans u2;clear h1 h2 h3 h4 u0 u1 u2)
  |fail)
 all_goals go_wp2
 go_end0;obtain⟨k2',hX3,hS3,hm3,k3,_,hs3'⟩:=H3.out;obtain⟨h1,h2,h3,h4⟩:=H5.out;have b24:Below w2.heap.size w2 w4:=HB3.out.1.trans (HB4.out.mono HB3.out.1.size);have hm4:MapS w4 m (l++[(id,partV C q i)]):=hm3.other (b24.block m hm3.lt);have c1:Chg (S::m::bv.ownBlock.toList) w w1:=k2'.more (by simp);have c2:Chg (S::m::bv.ownBlock.toList) w w2:=c1.trans (Chg.undrew k3) (fun b hb=> .inl (by simp at hb;simp[hb]));have c4:Chg (S::m::bv.ownBlock.toList) w w4:=c2.trans (Chg.of_below (M:=[]) b24) (fun b hb=>by cases hb);have c5:Chg (S::m::bv.ownBlock.toList) w w5:=c4.trans h3 (fun b hb=> .inl (by simp at hb⊢;rcases hb with h|h<;>simp[h]));rw[HOUT.out];refine⟨rfl,v',h1,hm4.other (h3.block m hm4.lt hmn),h2,c5,?_⟩
 rcases h4 with h|⟨g,hg,hge⟩
 ·exact .inl h
 ·exact .inr ⟨g,hg,Nat.le_trans c4.size hge⟩
structure SrvQ where
 up:Bool
 next:Nat
 held:List UInt8
 sent:List UInt8
def opPs (ps:List PS):List (Nat×Nat):=ps.filterMap (fun p=>match p with|⟨.inl (some (o,id))⟩=>some (o,id)|_=>none)
def opQs (qs:List QS):List (Nat×Nat):=qs.flatMap (fun x=>opPs x.ps)
def idsAt (o:Nat)(l:List (Nat×Nat)):List Nat:=(l.filter (fun p=>p.1==o)).map (·.2)
theorem mem_idsAt {o id:Nat}{l:List (Nat×Nat)}:id∈idsAt o l↔(o,id)∈l:=by
 unfold idsAt;rw[List.mem_map];constructor
 ·rintro ⟨p,hp,rfl⟩;obtain⟨h1,h2⟩:=List.mem_filter.1 hp;have:p.1=o:=by simpa using h2
  rw[←this];exact h1
 ·intro h;exact⟨(o,id),List.mem_filter.2 ⟨h,by simp⟩,rfl⟩
theorem idsAt_len (o:Nat)(l:List (Nat×Nat)):(idsAt o l).length≤l.length:=by
 unfold idsAt;rw[List.length_map];exact List.length_filter_le _ _
def freeJ (nx:Nat)(ids:List Nat):Nat:=((List.range (ids.length+1)).find? (fun j=> !ids.contains ((nx+j) % 65536))).getD 0
theorem nodup_sub:∀(a b:List Nat),a.Nodup→(∀x∈a,x∈b)→a.length≤b.length:=by
 intro a;induction a with
 |nil=>intro b _ _;exact Nat.zero_le _
 |cons x a ih=>
  intro b hn hs;obtain⟨h1,h2⟩:=List.nodup_cons.1 hn;have hx:=hs x (by simp);have:=ih (b.erase x) h2 (fun y hy=>(List.mem_erase_of_ne (fun e=>h1 (by rw[←e];exact hy))).2 (hs y (by simp[hy])));rw[List.length_erase_of_mem hx]at this;have hb:0<b.length:=List.length_pos_of_mem hx;simp only[List.length_cons]
  omega
theorem freeJ_spec (nx:Nat)(ids:List Nat)(hl:ids.length<65536):freeJ nx ids≤ids.length∧(nx+freeJ nx ids) % 65536∉ids∧∀j,j<freeJ nx ids→(nx+j) % 65536∈ids:=by
 unfold freeJ;cases hf:(List.range (ids.length+1)).find? (fun j=> !ids.contains ((nx+j) % 65536))with
 |none=>
  exfalso;rw[List.find?_eq_none]at hf;have hn:((List.range (ids.length+1)).map (fun j=>(nx+j) % 65536)).Nodup:=by
   refine List.Pairwise.map _ (R:=fun a b=>a<b∧b<65536) (fun a b h e=>?_) ?_
   ·omega
   ·rw[List.pairwise_iff_getElem];intro i j hi hj hij;simp at hi hj⊢;omega
  have:=nodup_sub _ ids hn (fun x hx=>by
   obtain⟨j,hj,rfl⟩:=List.mem_map.1 hx;have:=hf j hj;simpa using this)
  simp at this;omega
 |some j=>
  have h1:=List.find?_some hf;have h2:j∈List.range (ids.length+1):=List.mem_of_find?_eq_some hf;simp only[Option.getD_some]
  refine⟨by have:=List.mem_range.1 h2;omega,by simpa using h1,fun i hi=>?_⟩;rw[List.find?_range_eq_some]at hf;have:=hf.2.2 i hi;simpa using this
def sendK (sv pt:Nat)(k:Int)(val:ByteArray)(ex:List (Nat×Nat))(st:List SrvQ×List PS)(key:ByteArray):List SrvQ×List PS:=
 match st.1[ownerN sv pt key]?with
 |none=>(st.1,st.2++[.fl])
 |some s=>if s.up=true then
  (st.1.set (ownerN sv pt key) {s with next:=(s.next+freeJ s.next (idsAt (ownerN sv pt key) (ex++opPs st.2))+1) % 65536,sent:=s.sent++(sentB k key val ((s.next+freeJ s.next (idsAt (ownerN sv pt key) (ex++opPs st.2))) % 65536)).data.toList},
   st.2++[.op (ownerN sv pt key) ((s.next+freeJ s.next (idsAt (ownerN sv pt key) (ex++opPs st.2))) % 65536)])
  else(st.1,st.2++[.fl])
def sendsK (sv pt:Nat)(k:Int)(val:ByteArray)(ex:List (Nat×Nat))(ss:List SrvQ)(ks:List ByteArray):List SrvQ×List PS:=ks.foldl (sendK sv pt k val ex) (ss,[])
theorem sendsK_snoc (sv pt:Nat)(k:Int)(val:ByteArray)(ex:List (Nat×Nat))(ss:List SrvQ)(ks:List ByteArray)(key:ByteArray):sendsK sv pt k val ex ss (ks++[key])=sendK sv pt k val ex (sendsK sv pt k val ex ss ks) key:=by
 unfold sendsK;rw[List.foldl_append];rfl
theorem sendK_len (sv pt:Nat)(k:Int)(val:ByteArray)(ex:List (Nat×Nat))(st:List SrvQ×List PS)(key:ByteArray):(sendK sv pt k val ex st key).1.length=st.1.length∧(sendK sv pt k val ex st key).2.length=st.2.length+1:=by
 unfold sendK;split
 ·simp
 ·split<;>simp
theorem sendsK_ind (sv pt:Nat)(k:Int)(val:ByteArray)(ex:List (Nat×Nat))(ss:List SrvQ)(P:List ByteArray→List SrvQ×List PS→Prop)(h0:P [] (ss,[]))(hs:∀ks key st,P ks st→P (ks++[key]) (sendK sv pt k val ex st key)):∀ks,P ks (sendsK sv pt k val ex ss ks):=by
 intro ks;have:∀n,n≤ks.length→P (ks.take n) (sendsK sv pt k val ex ss (ks.take n)):=by
  intro n;induction n with
  |zero=>intro _;exact h0
  |succ n ih=>
   intro hn;have h1:=ih (by omega);rw[List.take_add_one,List.getElem?_eq_getElem (by omega)];simp only[Option.toList_some]
   rw[sendsK_snoc];exact hs _ _ _ h1
 have:=this ks.length (Nat.le_refl _);rwa [List.take_length]at this
theorem sendsK_len (sv pt:Nat)(k:Int)(val:ByteArray)(ex:List (Nat×Nat))(ss:List SrvQ)(ks:List ByteArray):(sendsK sv pt k val ex ss ks).1.length=ss.length∧(sendsK sv pt k val ex ss ks).2.length=ks.length:=
 sendsK_ind sv pt k val ex ss (fun ks st=>st.1.length=ss.length∧st.2.length=ks.length) ⟨rfl,rfl⟩ (fun ks key st h=>by
  obtain⟨h1,h2⟩:=sendK_len sv pt k val ex st key;exact⟨h1.trans h.1,by rw[h2,h.2];simp⟩) ks
theorem sendsK_bd (sv pt:Nat)(k:Int)(val:ByteArray)(hv:val.size≤40)(ex:List (Nat×Nat))(ss:List SrvQ)(M:Nat)(h:∀s∈ss,s.next<65536∧s.sent.length≤M)(ks:List ByteArray)(hk:∀x∈ks,x.size≤8):(∀s∈(sendsK sv pt k val ex ss ks).1,s.next<65536∧s.sent.length≤M+1000*ks.length):=
 sendsK_ind sv pt k val ex ss (fun ks st=>(∀x∈ks,x.size≤8)→∀s∈st.1,s.next<65536∧s.sent.length≤M+1000*ks.length) (fun _ s hs=>by have:=h s hs;simp;exact this) (fun ks key st hP hks s hs=>by
  have hP:=hP (fun x hx=>hks x (by simp[hx]));have hkey:=hks key (by simp);unfold sendK at hs;rw[List.length_append,List.length_singleton];split at hs
  ·have:=hP s hs;exact⟨this.1,by omega⟩
  ·rename_i u hu;split at hs
   ·rcases List.mem_or_eq_of_mem_set hs with h1|h1
    ·have:=hP s h1;exact⟨this.1,by omega⟩
    ·subst h1;have h2:=hP u (List.mem_of_getElem? hu);have h3:=sentB_size k key val ((u.next+freeJ u.next (idsAt (ownerN sv pt key) (ex++opPs st.2))) % 65536) hkey hv;refine⟨Nat.mod_lt _ (by decide),?_⟩;simp only[List.length_append]
     omega
   ·have:=hP s hs;exact⟨this.1,by omega⟩) ks hk
theorem sendsK_ps (sv pt:Nat)(k:Int)(val:ByteArray)(ex:List (Nat×Nat))(ss:List SrvQ)(ks:List ByteArray):∀p∈(sendsK sv pt k val ex ss ks).2,p= .fl∨∃o id,p= .op o id:=
 sendsK_ind sv pt k val ex ss (fun ks st=>∀p∈st.2,p= .fl∨∃o id,p= .op o id) (fun p hp=>by cases hp) (fun ks key st hP p hp=>by
  unfold sendK at hp;split at hp
  ·rcases List.mem_append.1 hp with h|h
   ·exact hP p h
   ·simp at h;exact .inl h
  ·split at hp
   ·rcases List.mem_append.1 hp with h|h
    ·exact hP p h
    ·simp at h;exact .inr ⟨_,_,h⟩
   ·rcases List.mem_append.1 hp with h|h
    ·exact hP p h
    ·simp at h;exact .inl h) ks
variable {W W':World}{s:SrvQ}{b o:Nat}{ss:List SrvQ}{l:List (Nat×Value)}{os:List (Nat×Nat×Value)}
structure SrvV where
 S:Nat
 m:Nat
 hb:Option Nat
 bp:Value
 bv:Value
 l:List (Nat×Value)
def SrvV.foot (v:SrvV):List Nat:=v.S::v.m::(v.hb.toList++v.bv.ownBlock.toList)
structure SrvAt (W:World)(v:SrvV)(s:SrvQ):Prop where
 inb:SInAt W v.S v.hb ⟨!s.up,s.next,v.m,v.bp,v.bv⟩ ⟨s.held,false,false⟩
 mp:MapS W v.m v.l
 bpv:v.bp= .pointer none∨v.bp= .pointer (some ⟨v.S,7,none⟩)
 row:BldRow W v.bv s.sent
 nx:s.next<65536
 ab:∀b,v.bv.ownBlock=some b→v.hb≠some b
theorem SrvAt.blk {v:SrvV}(h:SrvAt W v s):∃iv iu ip ic,W.heap[v.S]?=some (svO (!s.up) s.next v.m iv iu ip ic v.bp v.bv):=by
 obtain⟨⟨iv,iu,h1,_⟩,_⟩:=h.inb;exact⟨_,_,_,_,h1⟩
theorem SrvAt.kind {v:SrvV}(h:SrvAt W v s):∀b∈v.foot,(∃Z T f,W.heap[b]?=some (.cells Z T f)∧(T=143∨T=5))∨∃es c,W.heap[b]?=some (.map es c):=by
 intro b hb;rcases List.mem_cons.1 hb with rfl|hb
 ·obtain⟨iv,iu,ip,ic,h1⟩:=h.blk;exact .inl ⟨_,_,_,h1,.inl rfl⟩
 rcases List.mem_cons.1 hb with rfl|hb
 ·obtain⟨es,c,h1,_⟩:=h.mp;exact .inr ⟨_,_,h1⟩
 rcases List.mem_append.1 hb with hb|hb
 ·obtain⟨cur,h1⟩:=h.inb.hbBlk (optMem hb);exact .inl ⟨_,_,_,h1,.inr rfl⟩
 ·obtain⟨cur,fz,h1⟩:=h.row.blk (mem_own hb);exact .inl ⟨_,_,_,h1,.inr rfl⟩
theorem SrvAt.old {v:SrvV}(h:SrvAt W v s):∀b∈v.foot,b<W.heap.size:=fun b hb=>by
 rcases h.kind b hb with⟨Z,T,f,h1,_⟩|⟨es,c,h1⟩
 ·exact blkLt h1
 ·exact blkLt h1
theorem SrvAt.keep {v:SrvV}(h:SrvAt W v s)(k:∀b∈v.foot,W'.heap[b]?=W.heap[b]?):SrvAt W' v s:=
 ⟨h.inb.keep (fun b hb=>k b (by rcases hb with e|e<;>simp[SrvV.foot,e])),h.mp.other (k _ (by simp[SrvV.foot])),h.bpv,h.row.other (fun g hg=>k g (by simp[SrvV.foot,hg])),h.nx,h.ab⟩
theorem SrvAt.nS {v:SrvV}(h:SrvAt W v s):v.S≠v.m∧v.hb≠some v.S∧v.bv.ownBlock≠some v.S∧v.hb≠some v.m∧v.bv.ownBlock≠some v.m:=by
 obtain⟨iv,iu,ip,ic,h1⟩:=h.blk;unfold svO at h1;obtain⟨es,c,h2,_⟩:=h.mp;refine⟨fun e=>?_,h.inb.ne,fun e=>?_,fun e=>?_,fun e=>?_⟩
 ·rw[e,h2]at h1;cases h1
 ·obtain⟨cur,fz,h3⟩:=h.row.blk e;rw[h1]at h3;cases h3
 ·obtain⟨cur,h3⟩:=h.inb.hbBlk e;rw[h2]at h3;cases h3
 ·obtain⟨cur,fz,h3⟩:=h.row.blk e;rw[h2]at h3;cases h3
structure SrvsAt (W:World)(vs:List SrvV)(ss:List SrvQ):Prop where
 len:vs.length=ss.length
 ok:∀(j:Nat) (v:SrvV) (s:SrvQ),vs[j]?=some v→ss[j]?=some s→SrvAt W v s
 ap:∀(i j:Nat) (v u:SrvV),i≠j→vs[i]?=some v→vs[j]?=some u→∀b∈v.foot,b∉u.foot
def feetS (vs:List SrvV):List Nat:=(vs.map SrvV.foot).flatten
theorem mem_feetS {vs:List SrvV}:b∈feetS vs↔∃(j:Nat) (v:SrvV),vs[j]?=some v∧b∈v.foot:=by
 unfold feetS;rw[List.mem_flatten];constructor
 ·rintro ⟨l,hl,hb⟩;obtain⟨v,hv,rfl⟩:=List.mem_map.1 hl;obtain⟨j,hj,e⟩:=List.mem_iff_getElem.1 hv;exact⟨j,v,by rw[List.getElem?_eq_getElem hj,e],hb⟩
 ·rintro ⟨j,v,hv,hb⟩;exact⟨v.foot,List.mem_map.2 ⟨v,List.mem_of_getElem? hv,rfl⟩,hb⟩
theorem SrvsAt.get {vs:List SrvV}(h:SrvsAt W vs ss){j:Nat}(hj:j<vs.length):∃v s,vs[j]?=some v∧ss[j]?=some s∧SrvAt W v s:=by
 have hj2:j<ss.length:=by rw[←h.len];exact hj
 exact⟨_,_,List.getElem?_eq_getElem hj,List.getElem?_eq_getElem hj2,h.ok j _ _ (List.getElem?_eq_getElem hj) (List.getElem?_eq_getElem hj2)⟩
theorem SrvsAt.old {vs:List SrvV}(h:SrvsAt W vs ss):∀b∈feetS vs,b<W.heap.size:=by
 intro b hb;obtain⟨j,v,hv,hbv⟩:=mem_feetS.1 hb;obtain⟨v',s,hv',hs,hok⟩:=h.get (List.getElem?_eq_some_iff.1 hv).1;rw[hv]at hv';cases hv';exact hok.old b hbv
theorem SrvsAt.keep {vs:List SrvV}(h:SrvsAt W vs ss)(k:∀b∈feetS vs,W'.heap[b]?=W.heap[b]?):SrvsAt W' vs ss:=
 ⟨h.len,fun j v s hv hs=>(h.ok j v s hv hs).keep (fun b hb=>k b (mem_feetS.2 ⟨j,v,hv,hb⟩)),h.ap⟩
theorem SrvsAt.below {vs:List SrvV}(h:SrvsAt W vs ss)(hb:Below W.heap.size W W'):SrvsAt W' vs ss:=h.keep (fun b hm=>hb.block b (h.old b hm))
theorem SrvsAt.step {vs:List SrvV}(h:SrvsAt W vs ss){v v':SrvV}{s':SrvQ}(hv:vs[o]?=some v)(hc:Chg v.foot W W')(hn:SrvAt W' v' s')(hl:Later W v.foot v'.foot):SrvsAt W' (vs.set o v') (ss.set o s')∧Later W (feetS vs) (feetS (vs.set o v')):=by
 have hol:=(List.getElem?_eq_some_iff.1 hv).1;refine⟨⟨by simp[h.len],fun j u s hu hs=>?_,fun i j u1 u2 hij h1 h2 b hb1 hb2=>?_⟩,fun b hb=>?_⟩
 ·by_cases hjo:o=j
  ·subst hjo;rw[List.getElem?_set_self hol]at hu;rw[List.getElem?_set_self (by rw[←h.len];exact hol)]at hs;cases hu;cases hs;exact hn
  ·rw[List.getElem?_set_ne hjo]at hu hs;have hok:=h.ok j u s hu hs;exact hok.keep (fun b hb=>hc.block b (hok.old b hb) (h.ap j o u v (fun e=>hjo e.symm) hu hv b hb))
 ·rw[List.getElem?_set]at h1 h2;have oldb:∀(k:Nat) (u:SrvV),vs[k]?=some u→∀b∈u.foot,b<W.heap.size:=fun k u hu b hb=>h.old b (mem_feetS.2 ⟨k,u,hu,hb⟩)
  split at h1
  ·rename_i e1;subst e1;split at h2
   ·rename_i e2;exact hij e2
   ·simp at h1;subst h1;rcases hl b hb1 with h3|h3
    ·exact h.ap o j v u2 hij hv h2 b h3 hb2
    ·have:=oldb j u2 h2 b hb2;omega
  ·split at h2
   ·rename_i e2;subst e2;simp at h2;subst h2;rcases hl b hb2 with h3|h3
    ·exact h.ap i o u1 v hij h1 hv b hb1 h3
    ·have:=oldb i u1 h1 b hb1;omega
   ·exact h.ap i j u1 u2 hij h1 h2 b hb1 hb2
 ·obtain⟨j,u,hu,hbu⟩:=mem_feetS.1 hb;rw[List.getElem?_set]at hu;split at hu
  ·rename_i e;subst e;simp at hu;subst hu;rcases hl b hbu with h3|h3
   ·exact .inl (mem_feetS.2 ⟨o,v,hv,h3⟩)
   ·exact .inr h3
  ·exact .inl (mem_feetS.2 ⟨j,u,hu,hbu⟩)
theorem SrvsAt.apart {vs:List SrvV}(h:SrvsAt W vs ss){T:Nat}{Z:Array Value}{f:Nat×Nat}(hb:W.heap[b]?=some (.cells Z T f))(h1:T≠143)(h2:T≠5):b∉feetS vs:=by
 intro hm;obtain⟨j,v,hv,hbv⟩:=mem_feetS.1 hm;obtain⟨v',s,hv',hs,hok⟩:=h.get (List.getElem?_eq_some_iff.1 hv).1;rw[hv]at hv';cases hv';rcases hok.kind b hbv with⟨Z',T',f',h3,h4⟩|⟨es,c,h3⟩
 ·rw[hb]at h3;simp at h3;obtain⟨_,rfl,_⟩:=h3;rcases h4 with e|e
  ·exact h1 e
  ·exact h2 e
 ·rw[hb]at h3;cases h3
def opQ (C q:Nat):Nat→List PS→List (Nat×Nat×Value)
 |_,[]=>[]
 |i,⟨.inl (some (o,id))⟩::ps=>(o,id,partV C q i)::opQ C q (i+1) ps
 |i,_::ps=>opQ C q (i+1) ps
theorem opQ_app (C q:Nat):∀(a b:List PS) (i:Nat),opQ C q i (a++b)=opQ C q i a++opQ C q (i+a.length) b:=by
 intro a;induction a with
 |nil=>intro b i;simp[opQ]
 |cons p a ih=>
  intro b i;have e:i+(a.length+1)=i+1+a.length:=by omega
  cases p using PS.el<;>simp[opQ,ih,e]
theorem opQ_un (C q:Nat):∀(n i:Nat),opQ C q i (List.replicate n .un)=[]:=by
 intro n;induction n with
 |zero=>intro i;rfl
 |succ n ih=>intro i;rw[List.replicate_succ];exact ih (i+1)
theorem opQ_forget (C q:Nat):∀(ps:List PS) (i:Nat),(opQ C q i ps).map (fun p=>(p.1,p.2.1))=opPs ps:=by
 intro ps;induction ps with
 |nil=>intro i;rfl
 |cons p ps ih=>intro i;cases p using PS.el<;>simp[opQ,opPs,ih]<;>exact ih (i+1)
theorem opQ_part (C q:Nat):∀(ps:List PS) (i:Nat),∀p∈opQ C q i ps,∃j,i≤j∧p.2.2=partV C q j∧ps[j-i]?=some (.op p.1 p.2.1):=by
 intro ps;induction ps with
 |nil=>intro i p hp;cases hp
 |cons x ps ih=>
  intro i p hp;have go:p∈opQ C q (i+1) ps→∃j:Nat,i≤j∧p.2.2=partV C q j∧(x::ps)[j-i]?=some (.op p.1 p.2.1):=fun hp=>by
   obtain⟨j,h1,h2,h3⟩:=ih (i+1) p hp;refine⟨j,by omega,h2,?_⟩;have e:j-i=(j-(i+1))+1:=by omega
   rw[e,List.getElem?_cons_succ];exact h3
  cases x using PS.el with
  |op o id=>
   rcases List.mem_cons.1 hp with rfl|hp
   ·exact⟨i,Nat.le_refl _,rfl,by simp⟩
   ·exact go hp
  |un=>exact go hp
  |an st v=>exact go hp
  |fl=>exact go hp
def opnV (C:Nat)(qi:List QI)(xs:List QS):List (Nat×Nat×Value):=(qi.zip xs).flatMap (fun p=>opQ C p.1.q 0 p.2.ps)
theorem opnV_cons (C:Nat)(v:QI)(qi:List QI)(x:QS)(xs:List QS):opnV C (v::qi) (x::xs)=opQ C v.q 0 x.ps++opnV C qi xs:=by unfold opnV;simp
theorem opnV_snoc (C:Nat)(v:QI)(qi:List QI)(x:QS)(xs:List QS)(h:qi.length=xs.length):opnV C (qi++[v]) (xs++[x])=opnV C qi xs++opQ C v.q 0 x.ps:=by
 unfold opnV;rw[List.zip_append h,List.flatMap_append];simp
theorem opnV_forget (C:Nat):∀(qi:List QI) (xs:List QS),qi.length=xs.length→(opnV C qi xs).map (fun p=>(p.1,p.2.1))=opQs xs:=by
 intro qi;induction qi with
 |nil=>intro xs h;cases xs with
  |nil=>rfl
  |cons x xs=>simp at h
 |cons v qi ih=>
  intro xs h;cases xs with
  |nil=>simp at h
  |cons x xs=>
   rw[opnV_cons,List.map_append,opQ_forget,ih xs (by simpa using h)];unfold opQs;simp
structure MapR (o:Nat)(l:List (Nat×Value))(os:List (Nat×Nat×Value)):Prop where
 pm:l.Perm ((os.filter (fun p=>p.1==o)).map (·.2))
 nd:(l.map (·.1)).Nodup
theorem MapR.perm {os':List (Nat×Nat×Value)}(h:MapR o l os)(hp:os.Perm os'):MapR o l os':=⟨h.pm.trans ((hp.filter _).map _),h.nd⟩
theorem MapR.mem (h:MapR o l os){p:Nat×Value}:p∈l↔(o,p)∈os:=by
 rw[h.pm.mem_iff,List.mem_map];constructor
 ·rintro ⟨q,hq,rfl⟩;obtain⟨h1,h2⟩:=List.mem_filter.1 hq;have:q.1=o:=by simpa using h2
  rw[←this];exact h1
 ·intro hp;exact⟨(o,p),List.mem_filter.2 ⟨hp,by simp⟩,rfl⟩
theorem MapR.ids (h:MapR o l os)(id:Nat):(∃p∈l,p.1=id)↔id∈idsAt o (os.map (fun p=>(p.1,p.2.1))):=by
 rw[mem_idsAt,List.mem_map];constructor
 ·rintro ⟨p,hp,rfl⟩;exact⟨(o,p),h.mem.1 hp,rfl⟩
 ·rintro ⟨q,hq,e⟩;have e1:q.1=o:=congrArg Prod.fst e;have e2:q.2.1=id:=congrArg Prod.snd e;exact⟨q.2,h.mem.2 (by rw[←e1];exact hq),e2⟩
theorem MapR.snoc (h:MapR o l os)(id:Nat)(v:Value)(hn:∀p∈l,p.1≠id):MapR o (l++[(id,v)]) (os++[(o,id,v)]):=by
 refine⟨?_,?_⟩
 ·rw[List.filter_append,List.map_append];refine List.Perm.append h.pm ?_;simp
 ·rw[List.map_append];refine List.nodup_append.2 ⟨h.nd,by simp,fun a ha b hb e=>?_⟩;simp at hb;obtain⟨p,hp,e2⟩:=List.mem_map.1 ha;exact hn p hp (by rw[e2,e,hb])
theorem MapR.else {o':Nat}(h:MapR o l os)(id:Nat)(v:Value)(hn:o'≠o):MapR o l (os++[(o',id,v)]):=by
 refine⟨?_,h.nd⟩;rw[List.filter_append,List.map_append];have:([(o',id,v)].filter (fun p=>p.1==o))=[]:=by simp[hn]
 rw[this];simpa using h.pm
end Go.Proofs.YtlonjggfnleolaaGreatDoor
namespace Go.Proofs.YtlonjggfnleolaaGreatDoor
open Go.RowKit Go.Shelf Go.Conc
set_option linter.unusedVariables false
variable {W W':World}{X sv pt win g sc:Nat}{cv:Value}{exV:List (Nat×Nat×Value)}{v:CliV}{s:CliQ}{vs:List SrvV}{ss:List SrvQ}{vq:QI}{c:Cmd}{a b:List PS}
def forg (l:List (Nat×Nat×Value)):List (Nat×Nat):=l.map (fun p=>(p.1,p.2.1))
structure RunQ (W:World)(X sv pt win g sc:Nat)(cv:Value)(exV:List (Nat×Nat×Value))(v:CliV)(s:CliQ)(vs:List SrvV)(ss:List SrvQ):Prop where
 blk:W.heap[X]?=some (juO sv pt win cv (.slice (some ⟨g,0,none⟩) sv sc))
 gb:∃Zg,W.heap[g]?=some (.cells Zg 137 (0,0))∧∀(j:Nat) (u:SrvV),vs[j]?=some u→Zg[j]?=some (.pointer (some ⟨u.S,0,none⟩))
 len:vs.length=sv
 s1:1≤sv
 s4:sv≤4
 sc_:sv≤sc
 pt_:pt≤16
 cli:CliAt W win v s
 srv:SrvsAt W vs ss
 ap:∀b∈v.foot,b∉feetS vs
 mr:∀(o:Nat) (u:SrvV),vs[o]?=some u→MapR o u.l (exV++opnV v.k.C v.qi s.qs)
 pv:∀p∈exV,∃(C q i:Nat),p.2.2=partV C q i
 exl:exV.length≤100
theorem RunQ.nX (h:RunQ W X sv pt win g sc cv exV v s vs ss):X∉v.foot∧g∉v.foot∧X∉feetS vs∧g∉feetS vs:=by
 obtain⟨Zg,h1,h2⟩:=h.gb;exact⟨h.cli.apart h.blk (by decide),h.cli.apart h1 (by decide),h.srv.apart h.blk (by decide) (by decide),h.srv.apart h1 (by decide) (by decide)⟩
theorem RunQ.cliTo {v':CliV}{s':CliQ}(h:RunQ W X sv pt win g sc cv exV v s vs ss)(k:Chg v.foot W W')(hl:Later W v.foot v'.foot)(hc:CliAt W' win v' s')(ho:opnV v'.k.C v'.qi s'.qs=opnV v.k.C v.qi s.qs):RunQ W' X sv pt win g sc cv exV v' s' vs ss:=by
 obtain⟨n1,n2,_,_⟩:=h.nX;obtain⟨Zg,h1,h2⟩:=h.gb;refine⟨k.keep h.blk n1,⟨Zg,k.keep h1 n2,h2⟩,h.len,h.s1,h.s4,h.sc_,h.pt_,hc,h.srv.keep (fun b hb=>k.block b (h.srv.old b hb) (fun hm=>h.ap b hm hb)),fun b hb hm=>?_,by rw[ho];exact h.mr,h.pv,h.exl⟩;rcases hl b hb with h3|h3
 ·exact h.ap b h3 hm
 ·have:=h.srv.old b hm;omega
theorem opPs_len (ps:List PS):(opPs ps).length≤ps.length:=List.length_filterMap_le _ _
theorem opQs_len:∀(qs:List QS) (N:Nat),(∀x∈qs,x.ps.length≤N)→(opQs qs).length≤N*qs.length:=by
 intro qs;induction qs with
 |nil=>intro N _;exact Nat.zero_le _
 |cons x qs ih=>
  intro N h;have h1:=ih N (fun y hy=>h y (by simp[hy]));have h2:=h x (by simp);have h3:=opPs_len x.ps;unfold opQs at h1⊢;rw[List.flatMap_cons,List.length_append,List.length_cons,Nat.mul_add,Nat.mul_one];omega
theorem CliAt.quTo (h:CliAt W win v s){i:Nat}{x x':QS}(hv:v.qi[i]?=some vq)(hx0:s.qs[i]?=some x)(k:∀b∈v.foot,b∉vq.foot→W'.heap[b]?=W.heap[b]?)(hx:QuAt W' vq x')(hc:x'.c=x.c)(ok:QSOk s.d x'):CliAt W' win v {s with qs:=s.qs.set i x'}:=by
 have hkeep:∀b∈v.k.foot,W'.heap[b]?=W.heap[b]?:=fun b hb=>k b (List.mem_append.2 (.inl hb)) (fun hm=>h.ap b (mem_feetQ.2 ⟨vq,List.mem_of_getElem? hv,hm⟩) hb)
 have hmap:(s.qs.set i x').map (·.c)=s.qs.map (·.c):=by
  apply List.ext_getElem?;intro j;rw[List.getElem?_map,List.getElem?_map,List.getElem?_set];split
  ·rename_i e;subst e;rw[hx0];simp[hc,(List.getElem?_eq_some_iff.1 hx0).1]
  ·rfl
 refine⟨?_,h.qk,h.qu.set hv (fun b hb hn=>k b (List.mem_append.2 (.inr hb)) hn) hx,fun y hy=>?_⟩
 ·have:=h.cor.keep hkeep;show CorAt W' win v.k ⟨s.d,s.st,(s.qs.set i x').map (·.c),s.told⟩;rw[hmap];exact this
 ·rcases List.mem_or_eq_of_mem_set hy with h1|h1
  ·exact h.ok y h1
  ·rw[h1];exact ok
theorem QSOk.part {d:Int}{p p':PS}(h:QSOk d ⟨c,a++p::b⟩)(hp:PSOk c.kind p'):QSOk d ⟨c,a++p'::b⟩:=
 ⟨h.w,by have:=h.len;simpa using this,fun y hy=>by
  rcases List.mem_append.1 hy with h1|h1
  ·exact h.ps y (List.mem_append.2 (.inl h1))
  ·rcases List.mem_cons.1 h1 with h1|h1
   ·rw[h1];exact hp
   ·exact h.ps y (List.mem_append.2 (.inr (List.mem_cons_of_mem _ h1)))⟩
theorem qd_op (vq:QI)(c:Cmd)(a b:List PS)(o id:Nat):qdOf vq ⟨c,a++ .op o id::b⟩=qdOf vq ⟨c,a++ .un::b⟩∧yesC (a++ .op o id::b)=yesC (a++ .un::b)∧valC (a++ .op o id::b)=valC (a++ .un::b):=by
 refine⟨?_,?_,?_⟩
 ·unfold qdOf QS.n QS.fa QS.re;simp[PS.bad,PS.ref,List.countP_cons,PS.opn]
 ·unfold yesC;simp[PS.yes]
 ·unfold valC;simp[PS.val]
theorem qd_fl (vq:QI)(c:Cmd)(a b:List PS):(QS.n ⟨c,a++ .un::b⟩=QS.n ⟨c,a++ .fl::b⟩+1)∧qdOf vq ⟨c,a++ .fl::b⟩={qdOf vq ⟨c,a++ .un::b⟩with n:=QS.n ⟨c,a++ .fl::b⟩,fa:=true}∧yesC (a++ .fl::b)=yesC (a++ .un::b)∧valC (a++ .fl::b)=valC (a++ .un::b):=by
 refine⟨?_,?_,?_,?_⟩
 ·unfold QS.n;simp[List.countP_cons,PS.opn];try omega
 ·unfold qdOf QS.n QS.fa QS.re;simp[PS.opn,PS.bad,PS.ref]
 ·unfold yesC;simp[PS.yes]
 ·unfold valC;simp[PS.val]
theorem QuAt.toOp (o id:Nat)(h:QuAt W vq ⟨c,a++ .un::b⟩):QuAt W vq ⟨c,a++ .op o id::b⟩:=by
 obtain⟨e1,e2,e3⟩:=qd_op vq c a b o id;refine⟨?_,?_,?_,h.keys⟩
 ·rw[e1];exact h.blk
 ·show _=some (Obj.cells (yesC (a++ .op o id::b)) 4 (0,0));rw[e2];exact h.yes
 ·show _=some (Obj.cells (valC (a++ .op o id::b)) 9 (0,0));rw[e3];exact h.val
theorem QuAt.toFl (h:QuAt W vq ⟨c,a++ .un::b⟩)(k:Chg [vq.q] W W')(hq:W'.heap[vq.q]?=some (qdO {qdOf vq ⟨c,a++ .un::b⟩with n:=QS.n ⟨c,a++ .fl::b⟩,fa:=true})):QuAt W' vq ⟨c,a++ .fl::b⟩:=by
 obtain⟨_,e1,e2,e3⟩:=qd_fl vq c a b;have hn:=h.nd;unfold QI.foot at hn;simp at hn;have kb:∀b∈vq.foot,b≠vq.q→W'.heap[b]?=W.heap[b]?:=fun b hb hne=>k.block b (h.old b hb) (by simpa using hne)
 refine⟨?_,?_,?_,?_⟩
 ·rw[e1];exact hq
 ·show _=some (Obj.cells (yesC (a++ .fl::b)) 4 (0,0));rw[e2];exact(kb _ (by simp[QI.foot]) (fun e=>hn.1.1 e.symm)).trans h.yes
 ·show _=some (Obj.cells (valC (a++ .fl::b)) 9 (0,0));rw[e3];exact(kb _ (by simp[QI.foot]) (fun e=>hn.1.2.1 e.symm)).trans h.val
 ·rcases h.keys with e|⟨b',c',Z,e,e2,e3,e4,hZ,e5⟩
  ·exact .inl e
  ·refine .inr ⟨b',c',Z,e,e2,e3,e4,(kb b' (by simp[QI.foot,e]) (fun e6=>?_)).trans hZ,e5⟩;have h1:=h.blk;rw[←e6,hZ]at h1;unfold qdO quO at h1;simp at h1
set_option maxHeartbeats 1000000
variable {W W':World}{X sv pt win g sc:Nat}{cv:Value}{exV:List (Nat×Nat×Value)}{v:CliV}{s:CliQ}{vs:List SrvV}{ss:List SrvQ}
theorem opPs_app (a b:List PS):opPs (a++b)=opPs a++opPs b:=List.filterMap_append
theorem opPs_un (n:Nat):opPs (List.replicate n .un)=[]:=by
 induction n with
 |zero=>rfl
 |succ n ih=>rw[List.replicate_succ];unfold opPs at ih⊢;rw[List.filterMap_cons];exact ih
theorem opQs_snoc (qs:List QS)(x:QS):opQs (qs++[x])=opQs qs++opPs x.ps:=by
 unfold opQs;rw[List.flatMap_append];simp
theorem opnV_last (C:Nat)(v:QI)(qi:List QI)(c:Cmd)(ps:List PS)(n:Nat)(qs:List QS)(h:qi.length=qs.length):opnV C (qi++[v]) (qs++[⟨c,ps++List.replicate n .un⟩])=opnV C qi qs++opQ C v.q 0 ps:=by
 rw[opnV_snoc C v qi _ qs h,opQ_app,opQ_un,List.append_nil]
theorem forg_app (a b:List (Nat×Nat×Value)):forg (a++b)=forg a++forg b:=List.map_append
def allQ (v:CliV)(vs:List SrvV):List Nat:=v.foot++feetS vs
theorem RunQ.below (h:RunQ W X sv pt win g sc cv exV v s vs ss)(hb:Below W.heap.size W W'):RunQ W' X sv pt win g sc cv exV v s vs ss:=by
 obtain⟨Zg,h1,h2⟩:=h.gb;exact⟨(hb.block X (blkLt h.blk)).trans h.blk,⟨Zg,(hb.block g (blkLt h1)).trans h1,h2⟩,h.len,h.s1,h.s4,h.sc_,h.pt_,h.cli.below hb,h.srv.below hb,h.ap,h.mr,h.pv,h.exl⟩
theorem RunQ.sentTo {s':CliQ}{vs':List SrvV}{ss':List SrvQ}(h:RunQ W X sv pt win g sc cv exV v s vs ss)(k:Chg (allQ v vs) W W')(hc:CliAt W' win v s')(hsr:SrvsAt W' vs' ss')(hl:Later W (feetS vs) (feetS vs'))(hS:∀(j:Nat) (u':SrvV),vs'[j]?=some u'→∃u,vs[j]?=some u∧u'.S=u.S)(hn:vs'.length=sv)(hm:∀(o:Nat) (u:SrvV),vs'[o]?=some u→MapR o u.l (exV++opnV v.k.C v.qi s'.qs)):RunQ W' X sv pt win g sc cv exV v s' vs' ss':=by
 obtain⟨n1,n2,n3,n4⟩:=h.nX;obtain⟨Zg,h1,h2⟩:=h.gb;have nn:∀b,b∉v.foot→b∉feetS vs→b∉allQ v vs:=fun b a1 a2 hm=>by
  rcases List.mem_append.1 hm with e|e
  ·exact a1 e
  ·exact a2 e
 refine⟨k.keep h.blk (nn X n1 n3),⟨Zg,k.keep h1 (nn g n2 n4),fun j u' hu=>?_⟩,hn,h.s1,h.s4,h.sc_,h.pt_,hc,hsr,fun b hb hm'=>?_,hm,h.pv,h.exl⟩
 ·obtain⟨u,e1,e2⟩:=hS j u' hu;rw[e2];exact h2 j u e1
 ·rcases hl b hm' with h3|h3
  ·exact h.ap b hb h3
  ·have:=h.cli.old b hb;omega
theorem set_last {α:Type}(l:List α)(x y:α):(l++[x]).set l.length y=l++[y]:=by simp
theorem get_last {α:Type}(l:List α)(x:α):(l++[x])[l.length]?=some x:=by simp
theorem part_sent {d:Int}{st:St}{told:List UInt8}{qs0:List QS}{qi0:List QI}{vq:QI}{c:Cmd}{ps:List PS}{r:Nat}(h:RunQ W X sv pt win g sc cv exV v ⟨d,st,qs0++[⟨c,ps++List.replicate (r+1) .un⟩],told⟩ vs ss)(hqi:v.qi=qi0++[vq]){key:ByteArray}(hkey:c.keys[ps.length]?=some key)(hq1:qs0.length≤1000)(hbd:∀s∈ss,s.sent.length+1000≤100000000000):∃u,vs[ownerN sv pt key]?=some u∧Calls Tryz.prog 132 #[.pointer (some ⟨u.S,0,none⟩),partV v.k.C vq.q ps.length] W fun e w'=>e= .returned (.tuple #[])∧∃vs',RunQ w' X sv pt win g sc cv exV v ⟨d,st,qs0++[⟨c,(sendK sv pt c.kind c.val (forg exV++opQs qs0) (ss,ps) key).2++List.replicate r .un⟩],told⟩ vs' (sendK sv pt c.kind c.val (forg exV++opQs qs0) (ss,ps) key).1∧Chg (allQ v vs) W w'∧Later W (allQ v vs) (allQ v vs'):=by
 have ho:=ownerN_lt sv pt key h.s1;obtain⟨u,s,hu,hs,hok⟩:=h.srv.get (j:=ownerN sv pt key) (by rw[h.len];exact ho);refine⟨u,hu,?_⟩;have hql:qi0.length=qs0.length:=by have:=h.cli.qu.len;rw[hqi]at this;simpa using this
 have e0:ps++List.replicate (r+1) PS.un=ps++ .un::List.replicate r .un:=by rw[List.replicate_succ]
 have hvq:v.qi[qs0.length]?=some vq:=by rw[hqi,←hql];exact get_last _ _
 have hxq:(qs0++[(⟨c,ps++List.replicate (r+1) .un⟩:QS)])[qs0.length]?=some ⟨c,ps++List.replicate (r+1) .un⟩:=get_last _ _;have hQ:=h.cli.qu.qu _ _ _ hvq hxq;have hcok:=h.cli.ok ⟨c,ps++List.replicate (r+1) .un⟩ (by simp);simp only at hcok;rw[e0]at hQ hcok;have hkne:c.keys≠[]:=fun e=>by rw[e]at hkey;cases hkey
 have hk4:c.keys.length≤4:=hcok.w.cm.k4;have hlen:=hcok.len;simp at hlen;have hkm:=List.mem_of_getElem? hkey;have hk8:=hcok.w.cm.k8 key hkm;have hfr:forg (exV++opnV v.k.C v.qi (qs0++[(⟨c,ps++List.replicate (r+1) .un⟩:QS)]))=forg exV++opQs qs0++opPs ps:=by
  rw[forg_app];have h1:forg (opnV v.k.C v.qi (qs0++[(⟨c,ps++List.replicate (r+1) .un⟩:QS)]))=opQs (qs0++[(⟨c,ps++List.replicate (r+1) .un⟩:QS)]):=opnV_forget _ _ _ h.cli.qu.len;rw[h1,opQs_snoc];simp only
  rw[opPs_app,opPs_un,List.append_nil,List.append_assoc]
 have hMR:=h.mr _ u hu;simp only at hMR;have hids:∀id,(∃p∈u.l,p.1=id)↔id∈idsAt (ownerN sv pt key) (forg exV++opQs qs0++opPs ps):=fun id=>by
  rw[←hfr];exact hMR.ids id
 have hidl:(idsAt (ownerN sv pt key) (forg exV++opQs qs0++opPs ps)).length<65536:=by
  have a1:=idsAt_len (ownerN sv pt key) (forg exV++opQs qs0++opPs ps);have a2:(forg exV).length≤100:=by unfold forg;rw[List.length_map];exact h.exl
  have a3:=opQs_len qs0 4 (fun x hx=>by
   have hx':=h.cli.ok x (by simp[hx]);simp only at hx';have:=hx'.len;have:=hx'.w.cm.k4;omega)
  have a4:=opPs_len ps;rw[List.length_append,List.length_append]at a1;omega
 obtain⟨f1,f2,f3⟩:=freeJ_spec s.next _ hidl;have hpv:∀p∈u.l,∃(C q:Nat) (i:Int),p.2=partV C q i:=fun p hp=>by
  rcases List.mem_append.1 (hMR.mem.1 hp)with h1|h1
  ·obtain⟨C,q,i,e⟩:=h.pv _ h1;exact⟨C,q,i,e⟩
  ·unfold opnV at h1;obtain⟨z,hz,h2⟩:=List.mem_flatMap.1 h1;obtain⟨j,_,e,_⟩:=opQ_part _ _ _ _ _ h2;exact⟨_,_,_,e⟩
 unfold sendK;simp only[hs]
 by_cases hup:s.up=true
 ·rw[if_pos hup];simp only
  generalize hj0:freeJ s.next (idsAt (ownerN sv pt key) (forg exV++opQs qs0++opPs ps))=j0 at*;obtain⟨⟨iv,iu,hD,HH,hz⟩,hne⟩:=hok.inb;simp only[hup,Bool.not_true]at hD;rcases hQ.keys with⟨e,_⟩|⟨kb,kc,Z,e1,e2,e3,e4,hZ,e5⟩
  ·exact absurd e hkne
  ·have hqb:=hQ.blk;unfold qdO qdOf at hqb;simp only at hqb;rw[e3]at hqb;refine(sendUp_any u.S s.next u.m j0 v.k.C vq.q kb c.keys.length kc ps.length iv iu false false u.bp u.bv s.sent u.l c.kind c.val c.word key c.fatal c.id _ _ _ _ _ W hD hok.nx hok.mp hpv (fun p hp e=>f2 ((hids _).1 ⟨p,hp,e⟩)) (fun j hj=>(hids _).2 (f3 j hj)) hqb (List.getElem?_eq_some_iff.1 hkey).1 e4 (by omega) ⟨Z,hZ⟩ ((blkCell hZ _).trans (e5 _ _ hkey)) (hcok.w.cm.right hkne) hk8 hcok.w.cm.v40 hok.bpv hok.row (by have:=hbd s (List.mem_of_getElem? hs);omega)).mono ?_;rintro e w' ⟨rfl,bv',h1,h2,h3,h4,h5⟩;refine⟨rfl,vs.set (ownerN sv pt key) {u with bp:= .pointer (some ⟨u.S,7,none⟩),bv:=bv',l:=u.l++[((s.next+j0) % 65536,partV v.k.C vq.q ps.length)]},?_⟩
   obtain⟨n1,n2,n3,n4,n5⟩:=hok.nS;have kf:Chg u.foot W w':=h4.more (fun b hb=>by simp[SrvV.foot]at hb⊢;rcases hb with e|e|e<;>simp[e]);have hnhb:∀b,u.hb=some b→b∉u.S::u.m::u.bv.ownBlock.toList:=fun b hb hm=>by
    simp at hm;rcases hm with e|e|e
    ·exact n2 (by rw[hb,e])
    ·exact n4 (by rw[hb,e])
    ·exact hok.ab b e hb
   have hbl:∀b,u.hb=some b→b<W.heap.size:=fun b hb=>hok.old b (by simp[SrvV.foot,hb])
   have hnew:SrvAt w' {u with bp:= .pointer (some ⟨u.S,7,none⟩),bv:=bv',l:=u.l++[((s.next+j0) % 65536,partV v.k.C vq.q ps.length)]} {s with next:=(s.next+j0+1) % 65536,sent:=s.sent++(sentB c.kind key c.val ((s.next+j0) % 65536)).data.toList}:=by
    refine⟨⟨⟨iv,iu,?_,HH.other (fun b hb=>h4.block b (hbl b hb) (hnhb b hb)),hz⟩,hne⟩,h2,.inr rfl,h3,Nat.mod_lt _ (by decide),fun b hb hb2=>?_⟩
    ·simp only[hup,Bool.not_true]
     exact h1
    ·simp only at hb hb2;rcases h5 with e|⟨g',e,hg⟩
     ·exact hok.ab b (by rw[←e];exact hb) hb2
     ·rw[e]at hb;cases hb;have:=hbl _ hb2;omega
   have hlu:Later W u.foot (SrvV.foot {u with bp:= .pointer (some ⟨u.S,7,none⟩),bv:=bv',l:=u.l++[((s.next+j0) % 65536,partV v.k.C vq.q ps.length)]}):=fun b hb=>by
    unfold SrvV.foot at hb⊢;simp at hb⊢;rcases hb with e|e|e|e
    ·simp[e]
    ·simp[e]
    ·simp[e]
    ·rcases h5 with e2|⟨g',e2,hg⟩
     ·rw[e2]at e;simp[e]
     ·rw[e2]at e;cases e;exact .inr hg
   obtain⟨r1,r2⟩:=h.srv.step hu kf hnew hlu;have hcli:CliAt w' win v ⟨d,st,qs0++[⟨c,ps++[.op (ownerN sv pt key) ((s.next+j0) % 65536)]++List.replicate r .un⟩],told⟩:=by
    have kk:∀b∈v.foot,w'.heap[b]?=W.heap[b]?:=fun b hb=>kf.block b (h.cli.old b hb) (fun hm=>h.ap b hb (mem_feetS.2 ⟨_,u,hu,hm⟩))
    have:=h.cli.quTo (x':=⟨c,ps++ .op (ownerN sv pt key) ((s.next+j0) % 65536)::List.replicate r .un⟩) hvq hxq (fun b hb _=>kk b hb) ((hQ.keep (fun b hb=>kk b (List.mem_append.2 (.inr (mem_feetQ.2 ⟨vq,List.mem_of_getElem? hvq,hb⟩))))).toOp _ _) rfl (hcok.part (p':= .op (ownerN sv pt key) ((s.next+j0) % 65536)) trivial);rw[set_last]at this;simpa using this
   have hal:Chg (allQ v vs) W w':=kf.more (fun b hb=>List.mem_append.2 (.inr (mem_feetS.2 ⟨_,u,hu,hb⟩)));refine⟨h.sentTo hal hcli r1 r2 (fun j u' hu'=>?_) (by rw[List.length_set];exact h.len) (fun o u' hu'=>?_),hal,(Later.refl W (allQ v vs)).app (Nat.le_refl _) (Later.refl _ _) r2⟩
   ·rw[List.getElem?_set]at hu';split at hu'
    ·rename_i eo;subst eo;split at hu'
     ·cases hu';exact⟨u,hu,rfl⟩
     ·cases hu'
    ·exact⟨u',hu',rfl⟩
   ·have eq1:opnV v.k.C v.qi (qs0++[(⟨c,ps++[.op (ownerN sv pt key) ((s.next+j0) % 65536)]++List.replicate r .un⟩:QS)])=opnV v.k.C v.qi (qs0++[(⟨c,ps++List.replicate (r+1) .un⟩:QS)])++[(ownerN sv pt key,(s.next+j0) % 65536,partV v.k.C vq.q ps.length)]:=by
     rw[hqi,opnV_last _ _ _ _ _ _ _ hql,opnV_last _ _ _ _ _ _ _ hql,opQ_app,List.append_assoc];simp[opQ]
    show MapR o u'.l (exV++opnV v.k.C v.qi (qs0++[(⟨c,ps++[.op (ownerN sv pt key) ((s.next+j0) % 65536)]++List.replicate r .un⟩:QS)]));rw[eq1,←List.append_assoc];rw[List.getElem?_set]at hu';split at hu'
    ·rename_i eo;subst eo;split at hu'
     ·cases hu';exact hMR.snoc _ _ (fun p hp e=>f2 ((hids _).1 ⟨p,hp,e⟩))
     ·cases hu'
    ·rename_i eo;exact(h.mr o u' hu').else _ _ eo
 ·rw[if_neg hup];simp only
  have hup':s.up=false:=by simpa using hup
  obtain⟨iv,iu,ip,ic,hD⟩:=hok.blk;rw[hup']at hD;obtain⟨en,_⟩:=qd_fl vq c ps (List.replicate r .un);have hqb:=hQ.blk;unfold qdO at hqb;have eqn:(qdOf vq ⟨c,ps++ .un::List.replicate r .un⟩).n=QS.n ⟨c,ps++ .fl::List.replicate r .un⟩+1:=en;rw[eqn]at hqb;have hnl:QS.n ⟨c,ps++ .fl::List.replicate r .un⟩≤1000:=by
   have:QS.n ⟨c,ps++ .fl::List.replicate r .un⟩≤(ps++PS.fl::List.replicate r PS.un).length:=List.countP_le_length;simp at this;omega
  refine(sendDown_any u.S s.next u.m v.k.C vq.q ps.length iv iu ip ic u.bp u.bv _ _ _ _ _ _ _ _ _ _ _ W hD hqb hnl).mono ?_;rintro e w' ⟨rfl,h1,h2⟩;refine⟨rfl,vs,?_⟩;have hqf:vq.q∈v.foot:=List.mem_append.2 (.inr (mem_feetQ.2 ⟨vq,List.mem_of_getElem? hvq,by simp[QI.foot]⟩));have hcli:CliAt w' win v ⟨d,st,qs0++[⟨c,ps++[.fl]++List.replicate r .un⟩],told⟩:=by
   have:=h.cli.quTo (x':=⟨c,ps++ .fl::List.replicate r .un⟩) hvq hxq (fun b hb hn=>h2.block b (h.cli.old b hb) (by simp;intro e;exact hn (by rw[e];simp[QI.foot]))) (hQ.toFl h2 h1) rfl (hcok.part (p':= .fl) trivial);rw[set_last]at this;simpa using this
  have hal:Chg (allQ v vs) W w':=h2.more (fun b hb=>by simp at hb;rw[hb];exact List.mem_append.2 (.inl hqf));refine⟨h.sentTo hal hcli (h.srv.keep (fun b hb=>h2.block b (h.srv.old b hb) (by simp;intro e;exact h.ap _ hqf (by rw[←e];exact hb)))) (Later.refl _ _) (fun j u' hu'=>⟨u',hu',rfl⟩) h.len (fun o u' hu'=>?_),hal,Later.refl _ _⟩;have eq1:opnV v.k.C v.qi (qs0++[(⟨c,ps++[.fl]++List.replicate r .un⟩:QS)])=opnV v.k.C v.qi (qs0++[(⟨c,ps++List.replicate (r+1) .un⟩:QS)]):=by
   rw[hqi,opnV_last _ _ _ _ _ _ _ hql,opnV_last _ _ _ _ _ _ _ hql,opQ_app];simp[opQ]
  show MapR o u'.l (exV++opnV v.k.C v.qi (qs0++[(⟨c,ps++[.fl]++List.replicate r .un⟩:QS)]));rw[eq1];exact h.mr o u' hu'
set_option maxHeartbeats 2000000
set_option maxRecDepth 100000
theorem jsendQ {w:World}{X sv pt win g sc:Nat}{cv:Value}{exV:List (Nat×Nat×Value)}{v:CliV}{d:Int}{st:St}{told:List UInt8}{qs0:List QS}{qi0:List QI}{vq:QI}{c:Cmd}{vs:List SrvV}{ss:List SrvQ}(h:RunQ w X sv pt win g sc cv exV v ⟨d,st,qs0++[⟨c,List.replicate c.keys.length .un⟩],told⟩ vs ss)(hqi:v.qi=qi0++[vq])(hq1:qs0.length≤1000)(hbd:∀s∈ss,s.sent.length+5000≤100000000000):Calls Tryz.prog 91 #[.pointer (some ⟨X,0,none⟩),.pointer (some ⟨v.k.C,0,none⟩),.pointer (some ⟨vq.q,0,none⟩)] w fun e w'=>e= .returned (.tuple #[])∧∃vs',RunQ w' X sv pt win g sc cv exV v ⟨d,st,qs0++[⟨c,(sendsK sv pt c.kind c.val (forg exV++opQs qs0) ss c.keys).2⟩],told⟩ vs' (sendsK sv pt c.kind c.val (forg exV++opQs qs0) ss c.keys).1∧Chg (allQ v vs) w w'∧Later w (allQ v vs) (allQ v vs'):=by
 have hql0:qi0.length=qs0.length:=by have:=h.cli.qu.len;rw[hqi]at this;simpa using this
 have hvq:v.qi[qs0.length]?=some vq:=by rw[hqi,←hql0];exact get_last _ _
 have HQu:Hid (∀(wr:World) (ps:List PS) (vs':List SrvV) (ss':List SrvQ),RunQ wr X sv pt win g sc cv exV v ⟨d,st,qs0++[⟨c,ps⟩],told⟩ vs' ss'→QuAt wr vq ⟨c,ps⟩):=fun wr ps vs' ss' hr=>hr.cli.qu.qu _ _ _ hvq (get_last _ _)
 have hQ:=HQu.out _ _ _ _ h;have hcok:=h.cli.ok ⟨c,List.replicate c.keys.length .un⟩ (by simp);simp only at hcok;have hk4:c.keys.length≤4:=hcok.w.cm.k4;have hqb:=hQ.blk;unfold qdO at hqb;by_cases hk:c.keys=[]
 ·rcases hQ.keys with⟨_,_,ka,kc,e⟩|⟨b,kc,Z,_,_,e,_⟩
  ·rw[show(qdOf vq ⟨c,List.replicate c.keys.length .un⟩).kv=vq.kv from rfl,e]at hqb;refine(jsend_nil X v.k.C vq.q (.slice ka 0 kc) ka kc _ _ _ _ _ _ _ _ _ _ w hqb).mono ?_;rintro e w' ⟨rfl,rfl⟩;refine⟨rfl,vs,?_,Chg.refl _ _,Later.refl _ _⟩;rw[hk]at h⊢;exact h
  ·simp only[hk,List.length_nil]at e;rw[show(qdOf vq ⟨c,List.replicate c.keys.length .un⟩).kv=vq.kv from rfl,e]at hqb;refine(jsend_nil X v.k.C vq.q (.slice none 0 0) _ kc _ _ _ _ _ _ _ _ _ _ w hqb).mono ?_;rintro e w' ⟨rfl,rfl⟩;refine⟨rfl,vs,?_,Chg.refl _ _,Later.refl _ _⟩;rw[hk]at h⊢;exact h
 obtain⟨kb,kc,hkv,hkc⟩:∃kb kc,vq.kv= .slice (some ⟨kb,0,none⟩) c.keys.length kc∧c.keys.length≤kc:=by
  rcases hQ.keys with⟨e,_⟩|⟨b,kc,Z,_,_,e,e4,_⟩
  ·exact absurd e hk
  ·exact⟨b,kc,e,e4⟩
 have HKb:Hid (∀(wr:World) (ps:List PS),QuAt wr vq ⟨c,ps⟩→kb<wr.heap.size∧∀(i:Nat) (key:ByteArray),c.keys[i]?=some key→wr.cell? ⟨kb,i,none⟩=some (.string key)):=fun wr ps hr=>by
  rcases hr.keys with⟨e,_⟩|⟨b,kc',Z,_,_,e,_,hZ,e5⟩
  ·exact absurd e hk
  ·rw[hkv]at e;cases e;exact⟨blkLt hZ,fun i key hi=>(blkCell hZ i).trans (e5 i key hi)⟩
 have q1:w.cell? ⟨vq.q,1,none⟩=some (.slice (some ⟨kb,0,none⟩) c.keys.length kc):=(blkCell hqb 1).trans (by show some vq.kv=_;rw[hkv]);have hql:=blkLt hqb;have hs1:=h.s1;have hs4:=h.s4;have hsc:=h.sc_;have hpt:=h.pt_;have hk8:=hcok.w.cm.k8;have hv40:=hcok.w.cm.v40;have HA:=hide' (And.intro h (And.intro hqi (And.intro hq1 (And.intro hbd (And.intro hk8 hv40)))));obtain⟨kn,hkn⟩:∃kn,c.keys.length=kn:=⟨_,rfl⟩
 have HKN:=hide' hkn;rw[hkn]at q1 hkc hk4;obtain⟨q,hq⟩:∃q,vq.q=q:=⟨_,rfl⟩
 obtain⟨C,hC⟩:∃C,v.k.C=C:=⟨_,rfl⟩
 have HQC:=hide' (And.intro hq hC);rw[hq]at q1 hql⊢;rw[hC];clear h hqi hq1 hbd hk8 hv40 hcok hqb hQ hvq hkv hkn hq hC hql0 hk;go_enter Tryz.func91,Tryz.ntmps91;go_wp2_with fail
 go_loopw [15] (fun i wr=>∃(j:Nat) (vs':List SrvV),j≤kn∧i= .int .i64 (j:Int)∧Hid (RunQ wr X sv pt win g sc cv exV v ⟨d,st,qs0++[⟨c,(sendsK sv pt c.kind c.val (forg exV++opQs qs0) ss (c.keys.take j)).2++List.replicate (kn-j) .un⟩],told⟩ vs' (sendsK sv pt c.kind c.val (forg exV++opQs qs0) ss (c.keys.take j)).1∧Chg (allQ v vs) w wr∧Later w (allQ v vs) (allQ v vs'))) (fun i _=>kn-(intOf i).toNat)
 case atStart=>exact⟨0,vs,Nat.zero_le _,rfl,by rw[Nat.sub_zero,←HKN.out];exact HA.out.1,Chg.refl _ _,Later.refl _ _⟩
 case round=>
  obtain⟨j,vs',hj,rfl,HJ⟩:=hrel;by_cases hlt:j<kn
  ·have hlt':(j:Int)<(kn:Int):=by omega
   have hQr:=HQu.out _ _ _ _ HJ.out.1;obtain⟨lk,hkk⟩:=HKb.out _ _ hQr;obtain⟨key,hkey⟩:∃key,c.keys[j]?=some key:=⟨_,List.getElem?_eq_getElem (by rw[HKN.out];exact hlt)⟩
   have ck:=hkk j key hkey;have hk8:=HA.out.2.2.2.2.1 key (List.mem_of_getElem? hkey);have ho:=ownerN_lt sv pt key hs1;have hpl:(sendsK sv pt c.kind c.val (forg exV++opQs qs0) ss (c.keys.take j)).2.length=j:=by
    rw[(sendsK_len sv pt c.kind c.val (forg exV++opQs qs0) ss (c.keys.take j)).2,List.length_take,HKN.out];omega
   have er:kn-j=(kn-(j+1))+1:=by omega
   have hbds:∀s∈(sendsK sv pt c.kind c.val (forg exV++opQs qs0) ss (c.keys.take j)).1,s.sent.length+1000≤100000000000:=fun s hs=>by
    have:=(sendsK_bd sv pt c.kind c.val HA.out.2.2.2.2.2 (forg exV++opQs qs0) ss (100000000000-5000) (fun u hu=>by
     obtain⟨i,hi,e⟩:=List.mem_iff_getElem.1 hu;obtain⟨v',s',e1,e2,e3⟩:=HA.out.1.srv.get (j:=i) (by rw[HA.out.1.srv.len];exact hi);rw[List.getElem?_eq_getElem hi,e]at e2;cases e2;have:=HA.out.2.2.2.1 u hu;exact⟨e3.nx,by omega⟩) (c.keys.take j) (fun x hx=>HA.out.2.2.2.2.1 x (List.mem_of_mem_take hx)) s hs).2
    rw[List.length_take,HKN.out]at this;omega
   have hPS:∀nq:Nat,∃u,vs'[ownerN sv pt key]?=some u∧Calls Tryz.prog 132 #[.pointer (some ⟨u.S,0,none⟩),partV C q j] (wr.drewN nq) fun e w'=>e= .returned (.tuple #[])∧∃vs2,RunQ w' X sv pt win g sc cv exV v ⟨d,st,qs0++[⟨c,(sendsK sv pt c.kind c.val (forg exV++opQs qs0) ss (c.keys.take (j+1))).2++List.replicate (kn-(j+1)) .un⟩],told⟩ vs2 (sendsK sv pt c.kind c.val (forg exV++opQs qs0) ss (c.keys.take (j+1))).1∧Chg (allQ v vs') (wr.drewN nq) w'∧Later (wr.drewN nq) (allQ v vs') (allQ v vs2):=fun nq=>by
    have hr:=HJ.out.1.below (below_drewN (Below.refl _ _) nq);rw[er]at hr;obtain⟨u,hu,hc⟩:=part_sent hr HA.out.2.1 (key:=key) (by rw[hpl];exact hkey) HA.out.2.2.1 hbds;refine⟨u,hu,?_⟩;have ek:c.keys.take (j+1)=c.keys.take j++[key]:=by rw[List.take_add_one,hkey];rfl
    rw[hpl,HQC.out.1,HQC.out.2]at hc;rw[ek,sendsK_snoc];exact hc
   obtain⟨u,hu,_⟩:=hPS 0;obtain⟨Zg,hgb,hgz⟩:=HJ.out.1.gb;have cg:wr.cell? ⟨g,ownerN sv pt key,none⟩=some (.pointer (some ⟨u.S,0,none⟩)):=(blkCell hgb _).trans (hgz _ u hu);have HRo:Hid (∀W,Calls Tryz.prog 51 #[.int .i64 (sv:Int),.int .i64 (pt:Int),.string key] W fun e w'=>e= .returned (.int .i64 ((ownerN sv pt key:Nat):Int))∧w'=W):=fun W=>rowner_any sv pt key W hs4 hpt (by unfold maxLen;omega)
   obtain⟨x0,x1,_,_,x4,_⟩:=juCells HJ.out.1.blk;have lX:=blkLt HJ.out.1.blk;have lg:=blkLt hgb;have HPS:=hide' (And.intro hPS hu);generalize hon:ownerN sv pt key=o at*;have HON:=hide' hon;have hosc:o<sc:=by omega
   clear hgb hgz hkk hQr hkey hPS hon hbds hpl er hu;go_wp2_with fail
   go_quiet ((go_at_call 51;exact Calls.quiet_of_same (HRo.out _)))
   go_wp2_with fail
   obtain⟨u2,hu2,hc2⟩:=HPS.out.1 nq;have hu3:u2=u:=by rw[HPS.out.2]at hu2;cases hu2;rfl
   rw[hu3]at hc2;have HC2:=hide' hc2;clear hc2 hu2 hu3;unfold partV at HC2;go_at_call 132;refine HC2.out.mono ?_;rintro e w3 ⟨rfl,vs2,h1,h2,h3⟩;have H3:=hide' (And.intro h1 (And.intro h2 h3));clear h1 h2 h3 HC2;go_wp2;go_roundw;case rel=>
    obtain⟨h1,h2,h3⟩:=H3.out;obtain⟨_,hJ4,hJ5⟩:=HJ.out;have h2':Chg (allQ v vs') wr w3:=⟨h2.os,h2.tape,h2.output,h2.size,h2.block⟩
    exact⟨j+1,vs2,by omega,by go_num,h1,hJ4.trans h2' hJ5,hJ5.trans h3 hJ4.size⟩
   case measure=>simp[intOf];omega
  ·have hjn:j=kn:=by omega
   subst hjn;go_wp2;go_end0;have h:=HJ.out;rw[←HKN.out,List.take_length,Nat.sub_self]at h;simp only[List.replicate_zero,List.append_nil]at h;exact⟨rfl,vs',h⟩
variable {d:Int}{c:Cmd}{W' W:World}{win X sv pt g sc:Nat}{v:CliV}{s:CliQ}{cv:Value}{exV:List (Nat×Nat×Value)}{vs:List SrvV}{ss:List SrvQ}
theorem keys_size (h:WOk d c)(hk:c.keys≠[]):∀x∈c.keys,1≤x.size:=by
 have aux:∀m:Int,keysB c.keys m=true→∀x∈c.keys,1≤x.size:=fun m h1 x hx=>by
  unfold keysB at h1;rw[Bool.and_eq_true,List.all_eq_true]at h1;exact(keyB_size' (h1.2 x hx)).1
 rcases h.ok.or_ with⟨h1,_⟩|⟨_,h1,_⟩
 ·unfold cmdB at h1;split at h1
  ·rw[Bool.and_eq_true]at h1;exact aux _ h1.1
  ·split at h1
   ·rw[Bool.and_eq_true]at h1;exact aux _ h1.1
   ·split at h1
    ·rw[Bool.and_eq_true]at h1;exact aux _ h1.1
    ·cases h1
 ·exact absurd h1 hk
theorem QuAt.new {lo q:Nat}(h:NewQ lo W' q c)(hc:WOk d c):∃vq:QI,vq.q=q∧QuAt W' vq ⟨c,List.replicate c.keys.length .un⟩∧∀b∈vq.foot,lo≤b:=by
 obtain⟨ka,kn,kc,yb,vb,gy,gv,hk,hq,hy,hv⟩:=h.at_;have hkl:c.keys.length=kn:=by rcases hk with⟨e,h⟩|⟨b,c',e,_⟩<;>(cases e;first|(rw[h];rfl)|rfl)
 subst hkl;have ey:yesC (List.replicate c.keys.length PS.un)=Array.replicate c.keys.length (.bool false):=by
  unfold yesC;apply Array.ext';simp[PS.yes]
 have ev:valC (List.replicate c.keys.length PS.un)=Array.replicate c.keys.length (.string ⟨#[]⟩):=by
  unfold valC;apply Array.ext';simp[PS.val]
 have en:QS.n ⟨c,List.replicate c.keys.length .un⟩=c.keys.length:=by unfold QS.n;simp[List.countP_replicate,PS.opn]
 have ef:QS.fa ⟨c,List.replicate c.keys.length .un⟩=false:=by unfold QS.fa;simp[PS.bad]
 have er:QS.re ⟨c,List.replicate c.keys.length .un⟩=false:=by unfold QS.re;simp[PS.ref]
 have hq2:∀kb,W'.heap[q]?=some (qdO (qdOf ⟨q,yb,vb,kb,.slice ka c.keys.length kc⟩ ⟨c,List.replicate c.keys.length .un⟩)):=fun kb=>by
  unfold qdO qdOf;simp only[en,ef,er,List.length_replicate]
  exact hq
 rcases hk with⟨e,h0⟩|⟨b,c',e,hb,Z,hZ,hzs,hcap,hz⟩
 ·obtain⟨rfl,_,rfl⟩:ka=none∧c.keys.length=0∧kc=0:=by simpa using e
  refine⟨⟨q,yb,vb,none,.slice none c.keys.length 0⟩,rfl,⟨hq2 none,by rw[ey];exact hy,by rw[ev];exact hv,.inl ⟨h0,rfl,none,0,by simp[h0]⟩⟩,fun b hb=>?_⟩;simp[QI.foot]at hb;have:=h.ge;rcases hb with e|e|e<;>omega
 ·cases e;by_cases hk0:c.keys=[]
  ·refine⟨⟨q,yb,vb,none,.slice (some ⟨b,0,none⟩) c.keys.length kc⟩,rfl,⟨hq2 none,by rw[ey];exact hy,by rw[ev];exact hv,.inl ⟨hk0,rfl,some ⟨b,0,none⟩,kc,by simp[hk0]⟩⟩,fun b hb=>?_⟩;simp[QI.foot]at hb;have:=h.ge;rcases hb with e|e|e<;>omega
  ·refine⟨⟨q,yb,vb,some b,.slice (some ⟨b,0,none⟩) c.keys.length kc⟩,rfl,⟨hq2 _,by rw[ey];exact hy,by rw[ev];exact hv,.inr ⟨b,kc,Z,rfl,fun e=>?_,rfl,hcap,hZ,hz⟩⟩,fun b hb=>?_⟩
   ·simp only at e;rw[e,hv]at hZ;obtain⟨k0,hk1⟩:∃k0,c.keys[0]?=some k0:=⟨_,List.getElem?_eq_getElem (List.length_pos_iff.2 hk0)⟩
    have h2:=hz 0 k0 hk1;simp at hZ;rw[←hZ]at h2;have h3:=keys_size hc hk0 k0 (List.mem_of_getElem? hk1);have h4:k0=⟨#[]⟩:=by
     rw[Array.getElem?_replicate]at h2;split at h2
     ·simp at h2;exact h2.symm
     ·cases h2
    rw[h4]at h3;exact absurd h3 (by decide)
   ·simp[QI.foot]at hb;have:=h.ge;rcases hb with e|e|e|e<;>omega
theorem CliAt.next (h:CliAt W win v s)(x:StepR)(hx:readR s.d s.st.held=some x)(q:Nat)(k':CliI)(hcor:CorAt W' win k' ⟨s.d,afterS s.st x,s.qs.map (·.c)++[x.c],s.told⟩)(hkq:k'.qs=v.k.qs++[q])(h8:NewQ W.heap.size W' q x.c)(k:Chg v.k.foot W W')(hl:Later W v.k.foot k'.foot):∃vq:QI,vq.q=q∧CliAt W' win ⟨k',v.qi++[vq]⟩ ⟨s.d,afterS s.st x,s.qs++[⟨x.c,List.replicate x.c.keys.length .un⟩],s.told⟩∧Chg v.foot W W'∧Later W v.foot (CliV.foot ⟨k',v.qi++[vq]⟩):=by
 have hw:=read_wOk hx;obtain⟨vq,e,hq,hn⟩:=QuAt.new h8 hw;have hold:QusAt W' v.qi s.qs:=h.qu.keep (fun b hb=>k.block b (h.qu.old b hb) (h.ap b hb));refine⟨vq,e,⟨?_,?_,hold.snoc hq (fun b hb hm=>?_),fun y hy=>?_⟩,k.more (fun b hb=>List.mem_append.2 (.inl hb)),fun b hb=>?_⟩
 ·have:(s.qs++[(⟨x.c,List.replicate x.c.keys.length .un⟩:QS)]).map (·.c)=s.qs.map (·.c)++[x.c]:=by simp
  show CorAt W' win k' ⟨s.d,afterS s.st x,(s.qs++[(⟨x.c,List.replicate x.c.keys.length .un⟩:QS)]).map (·.c),s.told⟩;rw[this];exact hcor
 ·show k'.qs=(v.qi++[vq]).map (·.q);rw[hkq,h.qk,List.map_append];simp[e]
 ·have h1:=hn b hb;have h2:=h.qu.old b hm;omega
 ·rcases List.mem_append.1 hy with h1|h1
  ·exact h.ok y h1
  ·simp at h1;rw[h1];exact⟨hw,by simp,fun p hp=>by rw[List.eq_of_mem_replicate hp];trivial⟩
 ·rcases List.mem_append.1 hb with hb|hb
  ·rcases hl b hb with h1|h1
   ·exact .inl (List.mem_append.2 (.inl h1))
   ·exact .inr h1
  ·simp only at hb;rw[feetQ_app,feetQ_one]at hb;rcases List.mem_append.1 hb with hb|hb
   ·exact .inl (List.mem_append.2 (.inr hb))
   ·exact .inr (hn b hb)
theorem opQ_none (C q:Nat):∀(ps:List PS) (i:Nat),ps.countP PS.opn=0→opQ C q i ps=[]:=by
 intro ps;induction ps with
 |nil=>intro i _;rfl
 |cons p ps ih=>
  intro i h;rw[List.countP_cons]at h;cases p using PS.el with
  |op o id=>simp[PS.opn]at h
  |un=>simp[PS.opn]at h
  |an st v=>exact ih (i+1) (by simpa [PS.opn]using h)
  |fl=>exact ih (i+1) (by simpa [PS.opn]using h)
theorem tellQ_drop (d:Int):∀(xs:List QS) (told:List UInt8),∃m,m≤xs.length∧(tellQ d xs told).1=xs.drop m∧∀x∈xs.take m,x.n=0:=by
 intro xs;induction xs with
 |nil=>intro told;exact⟨0,Nat.le_refl _,rfl,fun x hx=>by cases hx⟩
 |cons x xs ih=>
  intro told;unfold tellQ;by_cases hx:x.n=0
  ·rw[if_pos hx];obtain⟨m,h0,h1,h2⟩:=ih (told++(toldB d x).data.toList);refine⟨m+1,by simp;omega,h1,fun y hy=>?_⟩;rw[List.take_succ_cons]at hy;rcases List.mem_cons.1 hy with e|e
   ·rw[e];exact hx
   ·exact h2 y e
  ·rw[if_neg hx];exact⟨0,Nat.zero_le _,rfl,fun y hy=>by cases hy⟩
theorem opnV_drop (C:Nat):∀(m:Nat) (qi:List QI) (xs:List QS),(∀x∈xs.take m,x.n=0)→opnV C (qi.drop m) (xs.drop m)=opnV C qi xs:=by
 intro m;induction m with
 |zero=>intro qi xs _;rfl
 |succ m ih=>
  intro qi xs h;cases qi with
  |nil=>unfold opnV;simp
  |cons v qi=>
   cases xs with
   |nil=>unfold opnV;simp
   |cons x xs=>
    rw[opnV_cons,List.drop_succ_cons,List.drop_succ_cons,ih qi xs (fun y hy=>h y (by rw[List.take_succ_cons];exact List.mem_cons_of_mem _ hy)),opQ_none _ _ _ _ (h x (by rw[List.take_succ_cons];simp)),List.nil_append]
theorem drop_same {α β:Type}(a:List α)(b:List β)(hab:a.length=b.length)(n m:Nat)(h:b.drop n=b.drop m):a.drop n=a.drop m:=by
 have hl:=congrArg List.length h;rw[List.length_drop,List.length_drop]at hl;by_cases h1:n<b.length
 ·have:n=m:=by omega
  rw[this]
 ·rw[List.drop_eq_nil_iff.2 (by omega),List.drop_eq_nil_iff.2 (by omega)]
def tellQs (s:CliQ):CliQ:={s with qs:=(tellQ s.d s.qs s.told).1,told:=(tellQ s.d s.qs s.told).2}
theorem tell_runQ (h:RunQ W X sv pt win g sc cv exV v s vs ss)(hl:s.told.length+1000*s.qs.length≤100000000000)(hwn:s.qs.length≤1000):Calls Tryz.prog 89 #[.pointer (some ⟨v.k.C,0,none⟩)] W fun e w'=>e= .returned (.tuple #[])∧∃v',RunQ w' X sv pt win g sc cv exV v' (tellQs s) vs ss∧v'.k.C=v.k.C∧v'.k.R=v.k.R∧Chg v.foot W w'∧Later W v.foot v'.foot:=by
 have hT:Calls Tryz.prog 89 #[.pointer (some ⟨v.k.C,0,none⟩)] W fun e w'=>e= .returned (.tuple #[])∧∃v',CliAt w' win v' {s with qs:=(tellQ s.d s.qs s.told).1,told:=(tellQ s.d s.qs s.told).2}∧v'.k.C=v.k.C∧v'.k.R=v.k.R∧Chg v.foot W w'∧Later W v.foot v'.foot∧∃n,v'.qi=v.qi.drop n∧(tellQ s.d s.qs s.told).1=s.qs.drop n:=by
  rcases h.cli.cor.di with⟨h1,h2⟩|⟨h1,h2⟩|⟨h1,h2⟩
  ·exact cliTell1 win v s W h.cli h2 h1 hl hwn
  ·exact cliTell2 win v s W h.cli h2 h1 hl hwn
  ·exact cliTell3 win v s W h.cli h2 h1 hl hwn
 refine hT.mono ?_;rintro e w' ⟨rfl,v',h1,h2,h3,h4,h5,n,h6,h7⟩;refine⟨rfl,v',h.cliTo h4 h5 h1 ?_,h2,h3,h4,h5⟩;obtain⟨m,m0,m1,m2⟩:=tellQ_drop s.d s.qs s.told;show opnV v'.k.C v'.qi (tellQ s.d s.qs s.told).1=_;rw[h2,h6,drop_same v.qi s.qs h.cli.qu.len n m (h7.symm.trans m1),m1];exact opnV_drop _ _ _ _ m2
def CNextQ (W w':World)(X sv pt win g sc:Nat)(cv:Value)(exV:List (Nat×Nat×Value))(v:CliV)(s:CliQ)(vs:List SrvV)(ss:List SrvQ)(e:Ending):Prop:=
 ((¬s.qs.length<win∨readR s.d s.st.held=none)∧e= .returned (.tuple #[.pointer none,.bool false])∧RunQ w' X sv pt win g sc cv exV v s vs ss∧Chg v.foot W w')∨
 ∃(x:StepR) (vq:QI) (v':CliV),readR s.d s.st.held=some x∧s.qs.length<win∧e= .returned (.tuple #[.pointer (some ⟨vq.q,0,none⟩),.bool true])∧RunQ w' X sv pt win g sc cv exV v' ⟨s.d,afterS s.st x,s.qs++[⟨x.c,List.replicate x.c.keys.length .un⟩],s.told⟩ vs ss∧v'.qi=v.qi++[vq]∧v'.k.C=v.k.C∧v'.k.R=v.k.R∧Chg v.foot W w'∧Later W v.foot v'.foot
theorem next_runQ (h:RunQ W X sv pt win g sc cv exV v s vs ss)(hh:s.st.held.length≤140737488355328)(hw:s.qs.length≤1000000):Calls Tryz.prog 90 #[.pointer (some ⟨v.k.C,0,none⟩)] W fun e w'=>CNextQ W w' X sv pt win g sc cv exV v s vs ss e:=by
 obtain⟨buf,a,b,tm,c1,c2⟩:=h.cli.cor.chan;have c3:buf.size=s.qs.length:=by rw[c2];show(s.qs.map (·.c)).length=_;rw[List.length_map]
 by_cases hlt:s.qs.length<win
 ·cases hr:readR s.d s.st.held with
  |none=>
   refine(next_none v.k.C v.k.R v.k.ch win a b v.k.t s.d v.k.hb s.st buf tm v.k.wv v.k.bp v.k.bv W h.cli.cor.blk c1 (by omega) h.cli.cor.di h.cli.cor.rd hh hr).mono ?_;rintro e w' ⟨rfl,k,buf',s',r',h1,h2⟩;have k':Chg v.k.foot W w':=k.more (fun x hx=>by simp at hx;rw[hx];simp[CliI.foot]);obtain⟨a1,a2,a3⟩:=h.cli.corTo k' (h.cli.cor.chan' k buf' s' r' tm (by omega) h2) rfl (Later.refl _ _);exact .inl ⟨.inr hr,rfl,h.cliTo a2 a3 a1 rfl,a2⟩
  |some x=>
   have hc:=read_cmdOk hr;have hrow:=h.cli.cor.row;have hwl:s.k.waits.length=s.qs.length:=by show(s.qs.map (·.c)).length=_;rw[List.length_map]
   rw[hwl]at hrow;refine(next_some v.k.C v.k.R v.k.ch win a b v.k.t s.qs.length s.d v.k.hb s.st x (v.k.qs.map ptrV) buf tm v.k.wv v.k.bp v.k.bv W h.cli.cor.blk c1 (by omega) h.cli.cor.di h.cli.cor.rd hh hr hrow hw (by have:=hc.k4;omega)).mono ?_;rintro e w' ⟨q,g',c',buf',s',r',hb',rfl,h1,h2,h3,h4,h5,h6,h7,h8,h9⟩;rw[←hwl]at h1 h2;obtain⟨a1,a3,a4⟩:=h.cli.cor.next x hr q g' c' buf' s' r' tm hb' h1 h2 h3 (by omega) h5 h6 h7 h8 h9;obtain⟨vq,e1,e2,e3,e4⟩:=h.cli.next x hr q _ a1 rfl h8 a3 a4;refine .inr ⟨x,vq,_,hr,hlt,by rw[e1],h.cliTo e3 e4 e2 ?_,rfl,rfl,rfl,e3,e4⟩;have:=opnV_last v.k.C vq v.qi x.c [] x.c.keys.length s.qs h.cli.qu.len;simpa [opQ]using this
 ·refine(next_full v.k.C v.k.R v.k.ch win a b buf tm v.k.wv v.k.bp v.k.bv W h.cli.cor.blk c1 (by omega)).mono ?_;rintro e w' ⟨rfl,rfl⟩;exact .inl ⟨.inl hlt,rfl,h,Chg.refl _ _⟩
set_option maxHeartbeats 1000000
set_option maxRecDepth 100000
variable {sv pt win T E X g sc:Nat}{ex:List (Nat×Nat)}{s:CliQ}{ss:List SrvQ}{x:StepR}{cv:Value}{exV:List (Nat×Nat×Value)}{v:CliV}{vs:List SrvV}
def gotQ (sv pt:Nat)(ex:List (Nat×Nat))(s:CliQ)(ss:List SrvQ)(x:StepR):CliQ×List SrvQ:=
 (⟨s.d,afterS s.st x,s.qs++[⟨x.c,(sendsK sv pt x.c.kind x.c.val (ex++opQs s.qs) ss x.c.keys).2⟩],s.told⟩,(sendsK sv pt x.c.kind x.c.val (ex++opQs s.qs) ss x.c.keys).1)
def servF (sv pt win:Nat)(ex:List (Nat×Nat)):Nat→CliQ→List SrvQ→CliQ×List SrvQ
 |0,s,ss=>(s,ss)
 |f+1,s,ss=>if s.qs.length<win then
  match readR s.d s.st.held with
  |none=>(s,ss)
  |some x=>servF sv pt win ex f (tellQs (gotQ sv pt ex s ss x).1) (gotQ sv pt ex s ss x).2
  else(s,ss)
def servQ (sv pt win:Nat)(ex:List (Nat×Nat))(s:CliQ)(ss:List SrvQ):CliQ×List SrvQ:=servF sv pt win ex s.st.held.length s ss
theorem servF_more (sv pt win:Nat)(ex:List (Nat×Nat)):∀(f:Nat) (s:CliQ) (ss:List SrvQ) (g:Nat),s.st.held.length≤f→f≤g→servF sv pt win ex g s ss=servF sv pt win ex f s ss:=by
 intro f;induction f with
 |zero=>
  intro s ss g h _;have h0:s.st.held=[]:=List.length_eq_zero_iff.1 (by omega);cases g with
  |zero=>rfl
  |succ g=>
   unfold servF;rw[h0,readR_nil];simp
 |succ f ih=>
  intro s ss g h hg;obtain⟨g,rfl⟩:∃k,g=k+1:=⟨g-1,by omega⟩
  unfold servF;split
  ·cases hr:readR s.d s.st.held with
   |none=>rfl
   |some x=>
    have hl:=afterS_len hr;simp only
    exact ih _ _ g (by show(afterS s.st x).held.length≤f;omega) (by omega)
  ·rfl
theorem servQ_stop (h:¬s.qs.length<win∨readR s.d s.st.held=none):servQ sv pt win ex s ss=(s,ss):=by
 unfold servQ;cases s.st.held.length with
 |zero=>rfl
 |succ f=>
  unfold servF;rcases h with h|h
  ·rw[if_neg h]
  ·rw[h];simp
theorem servQ_some (hw:s.qs.length<win)(h:readR s.d s.st.held=some x):servQ sv pt win ex s ss=servQ sv pt win ex (tellQs (gotQ sv pt ex s ss x).1) (gotQ sv pt ex s ss x).2:=by
 have hl:=afterS_len h;obtain⟨f,hf⟩:∃f,s.st.held.length=f+1:=⟨s.st.held.length-1,by omega⟩
 unfold servQ;rw[hf];conv=>lhs;unfold servF;rw[if_pos hw,h]
 simp only
 exact servF_more sv pt win ex _ _ _ f (Nat.le_refl _) (by show(afterS s.st x).held.length≤f;omega)
structure BdQ (win T E:Nat)(s:CliQ)(ss:List SrvQ):Prop where
 told:s.told.length+1000*(s.qs.length+s.st.held.length)≤T
 wl:s.qs.length≤win
 srv:∀u∈ss,u.next<65536∧u.sent.length+4000*s.st.held.length+E≤T
theorem tellQ_bd (d:Int)(hd:d=1∨d=2∨d=3):∀(l:List QS) (told:List UInt8),(∀c∈l,QSOk d c)→(tellQ d l told).2.length+1000*(tellQ d l told).1.length≤told.length+1000*l.length∧(tellQ d l told).1.length≤l.length:=by
 intro l;induction l with
 |nil=>intro told _;exact⟨Nat.le_refl _,Nat.le_refl _⟩
 |cons x l ih=>
  intro told h;unfold tellQ;split
  ·have h1:=ih (told++(toldB d x).data.toList) (fun c hc=>h c (by simp[hc]));have h2:=toldB_size hd (h x (by simp));rw[List.length_append]at h1;have h3:(toldB d x).data.toList.length≤1000:=by rw[Array.length_toList];exact h2
   simp only[List.length_cons]
   omega
  ·exact⟨Nat.le_refl _,Nat.le_refl _⟩
theorem BdQ.tell (h:BdQ win T E s ss)(hd:s.d=1∨s.d=2∨s.d=3)(hok:∀c∈s.qs,QSOk s.d c):BdQ win T E (tellQs s) ss:=by
 obtain⟨h1,h2⟩:=tellQ_bd s.d hd s.qs s.told hok;have ht:=h.told;have hw:=h.wl;refine⟨?_,?_,h.srv⟩
 ·show(tellQ s.d s.qs s.told).2.length+1000*((tellQ s.d s.qs s.told).1.length+s.st.held.length)≤T;omega
 ·show(tellQ s.d s.qs s.told).1.length≤win;omega
theorem BdQ.got (h:BdQ win T E s ss)(hw:s.qs.length<win)(hx:readR s.d s.st.held=some x)(sv pt:Nat)(ex:List (Nat×Nat)):BdQ win T E (gotQ sv pt ex s ss x).1 (gotQ sv pt ex s ss x).2:=by
 have hc:=read_cmdOk hx;have hl:=afterS_len hx;have ht:=h.told;have h4:=hc.k4;refine⟨?_,?_,fun u hu=>?_⟩
 ·show s.told.length+1000*((s.qs++[_]).length+(afterS s.st x).held.length)≤T;rw[List.length_append,List.length_singleton];omega
 ·show(s.qs++[_]).length≤win;rw[List.length_append,List.length_singleton];omega
 ·show _∧u.sent.length+4000*(afterS s.st x).held.length+E≤T;have h1:=sendsK_bd sv pt x.c.kind x.c.val hc.v40 (ex++opQs s.qs) ss (T-E-4000*s.st.held.length) (fun z hz=>by
   have:=h.srv z hz;exact⟨this.1,by omega⟩) x.c.keys hc.k8 u hu
  refine⟨h1.1,?_⟩;have hlen:=(sendsK_len sv pt x.c.kind x.c.val (ex++opQs s.qs) ss x.c.keys).1;cases ss with
  |nil=>
   exfalso;have h0:(gotQ sv pt ex s [] x).2=[]:=List.length_eq_zero_iff.1 hlen;rw[h0]at hu;cases hu
  |cons u0 us=>
   have h5:=h.srv u0 (by simp);omega
theorem dial_of {d:Int}{t:Nat}(h:dT d t):d=1∨d=2∨d=3:=by
 rcases h with⟨h,_⟩|⟨h,_⟩|⟨h,_⟩<;>simp[h]
def OnQ (W:World)(X sv pt win g sc:Nat)(cv:Value)(exV:List (Nat×Nat×Value))(C R T E:Nat)(M:List Nat)(w0:World)(tgt:CliQ×List SrvQ)(qv bv:Value):Prop:=
 ∃(v:CliV) (s:CliQ) (vs:List SrvV) (ss:List SrvQ),v.k.C=C∧v.k.R=R∧RunQ W X sv pt win g sc cv exV v s vs ss∧Chg M w0 W∧Later w0 M (allQ v vs)∧
  ((qv= .pointer none∧bv= .bool false∧BdQ win T E s ss∧(s,ss)=tgt)∨
   ∃(d:Int) (st:St) (qs0:List QS) (c:Cmd) (told:List UInt8) (qi0:List QI) (vq:QI),s=⟨d,st,qs0++[⟨c,List.replicate c.keys.length .un⟩],told⟩∧v.qi=qi0++[vq]∧qv= .pointer (some ⟨vq.q,0,none⟩)∧bv= .bool true∧qs0.length≤1000∧(∀u∈ss,u.sent.length+5000≤100000000000)∧BdQ win T E ⟨d,st,qs0++[⟨c,(sendsK sv pt c.kind c.val (forg exV++opQs qs0) ss c.keys).2⟩],told⟩ (sendsK sv pt c.kind c.val (forg exV++opQs qs0) ss c.keys).1∧servQ sv pt win (forg exV) (tellQs ⟨d,st,qs0++[⟨c,(sendsK sv pt c.kind c.val (forg exV++opQs qs0) ss c.keys).2⟩],told⟩) (sendsK sv pt c.kind c.val (forg exV++opQs qs0) ss c.keys).1=tgt)
theorem onQ_next {W w' w0:World}{C R:Nat}{M:List Nat}{e:Ending}(hT:T+5000≤100000000000)(hwin:win≤1000)(hC:v.k.C=C)(hR:v.k.R=R)(hb:BdQ win T E s ss)(hk:Chg M w0 W)(hl:Later w0 M (allQ v vs))(h:CNextQ W w' X sv pt win g sc cv exV v s vs ss e):∃qv bv,e= .returned (.tuple #[qv,bv])∧OnQ w' X sv pt win g sc cv exV C R T E M w0 (servQ sv pt win (forg exV) s ss) qv bv∧onM bv w' R<s.st.held.length+1:=by
 have hs:=hk.size;rcases h with⟨h1,rfl,h2,h3⟩|⟨x,vq,v',hr,hlt,rfl,h2,h3,h4,h5,h6,h7⟩
 ·exact⟨_,_,rfl,⟨v,s,vs,ss,hC,hR,h2,hk.trans h3 hl.left,hl,.inl ⟨rfl,rfl,hb,(servQ_stop h1).symm⟩⟩,Nat.succ_pos _⟩
 ·have b2:=hb.got hlt hr sv pt (forg exV);refine⟨_,_,rfl,⟨v',_,vs,ss,h4.trans hC,h5.trans hR,h2,hk.trans h6 hl.left,hl.app hs h7 (Later.refl _ _),.inr ⟨s.d,afterS s.st x,s.qs,x.c,s.told,v.qi,vq,rfl,h3,rfl,rfl,by omega,fun u hu=>by have:=(hb.srv u hu).2;omega,b2,(servQ_some hlt hr).symm⟩⟩,?_⟩;show heldLen w' R+1<_;have h8:=h2.cli.cor.rd.len;rw[h5,hR]at h8;rw[h8];have:=afterS_len hr;show(afterS s.st x).held.length+1<_;omega
theorem readOn_runQ {w:World}(h:RunQ w X sv pt win g sc cv exV v s vs ss)(hT:T+5000≤100000000000)(hwin:win≤1000)(hb:BdQ win T E s ss):Calls Tryz.prog 59 #[.pointer (some ⟨X,0,none⟩),.pointer (some ⟨v.k.C,0,none⟩)] w fun e w'=>e= .returned (.tuple #[])∧∃v' vs',RunQ w' X sv pt win g sc cv exV v' (servQ sv pt win (forg exV) (tellQs s) ss).1 vs' (servQ sv pt win (forg exV) (tellQs s) ss).2∧v'.k.C=v.k.C∧BdQ win T E (servQ sv pt win (forg exV) (tellQs s) ss).1 (servQ sv pt win (forg exV) (tellQs s) ss).2∧Chg (allQ v vs) w w'∧Later w (allQ v vs) (allQ v' vs'):=by
 obtain⟨C,hC⟩:∃C,v.k.C=C:=⟨_,rfl⟩
 obtain⟨R,hR⟩:∃R,v.k.R=R:=⟨_,rfl⟩
 have hbt:=hb.told;have hbw:=hb.wl;have HT0:=hide' (tell_runQ h (by omega) (by omega));rw[hC]at HT0⊢;have HA:=hide' (And.intro (hb.tell (dial_of h.cli.cor.di) h.cli.ok) (And.intro hC hR));generalize hM:allQ v vs=M at*;have HM:=hide' hM;have HTell:Hid (∀(w1:World) (v1:CliV) (s1:CliQ) (vs1:List SrvV) (ss1:List SrvQ),RunQ w1 X sv pt win g sc cv exV v1 s1 vs1 ss1→v1.k.C=C→BdQ win T E s1 ss1→Calls Tryz.prog 89 #[.pointer (some ⟨C,0,none⟩)] w1 fun e w'=>e= .returned (.tuple #[])∧∃v',RunQ w' X sv pt win g sc cv exV v' (tellQs s1) vs1 ss1∧v'.k.C=C∧v'.k.R=v1.k.R∧Chg v1.foot w1 w'∧Later w1 v1.foot v'.foot∧BdQ win T E (tellQs s1) ss1):=fun w1 v1 s1 vs1 ss1 h1 hc1 hb1=>by
  have a1:=hb1.told;have a2:=hb1.wl;have:=tell_runQ h1 (by omega) (by omega);rw[hc1]at this;refine this.mono ?_;rintro e w' ⟨rfl,v',b1,b2,b3,b4,b5⟩;exact⟨rfl,v',b1,b2,b3,b4,b5,hb1.tell (dial_of h1.cli.cor.di) h1.cli.ok⟩
 have HNext:Hid (∀(w1:World) (v1:CliV) (s1:CliQ) (vs1:List SrvV) (ss1:List SrvQ),RunQ w1 X sv pt win g sc cv exV v1 s1 vs1 ss1→v1.k.C=C→v1.k.R=R→BdQ win T E s1 ss1→Chg M w w1→Later w M (allQ v1 vs1)→Calls Tryz.prog 90 #[.pointer (some ⟨C,0,none⟩)] w1 fun e w'=>∃qv bv,e= .returned (.tuple #[qv,bv])∧OnQ w' X sv pt win g sc cv exV C R T E M w (servQ sv pt win (forg exV) s1 ss1) qv bv∧onM bv w' R<s1.st.held.length+1):=fun w1 v1 s1 vs1 ss1 h1 hc1 hr1 hb1 hk1 hl1=>by
  have a1:=hb1.told;have a2:=hb1.wl;have:=next_runQ h1 (by omega) (by omega);rw[hc1]at this;refine this.mono ?_;intro e w' ho;exact onQ_next hT hwin hc1 hr1 hb1 hk1 hl1 ho
 clear h hb hbt hbw hM hC hR;go_enter Tryz.func59,Tryz.ntmps59;go_wp2_with fail
 go_at_call 89;refine HT0.out.mono ?_;rintro e w1 ⟨rfl,v1,h1,hc1,hr1,k1,l1⟩;have HN1:=hide' (HNext.out w1 v1 (tellQs s) vs ss h1 hc1 (hr1.trans HA.out.2.2) HA.out.1 (k1.more (fun b hb=>by rw[←HM.out];exact List.mem_append.2 (.inl hb))) (by rw[←HM.out];exact(Later.refl _ _).app (Nat.le_refl _) l1 (Later.refl _ _)));clear h1 hc1 hr1 k1 l1;go_wp2_with fail
 go_at_call 90;refine HN1.out.mono ?_;rintro e w2 ⟨qv,bv,rfl,hon,hm⟩;have HON:=hide' hon;clear hon hm HN1 HT0;go_wp2_with fail
 go_loopw [4,5] (fun qv bv wr=>Hid (OnQ wr X sv pt win g sc cv exV C R T E M w (servQ sv pt win (forg exV) (tellQs s) ss) qv bv)) (fun _ bv wr=>onM bv wr R)
 case atStart=>exact HON
 case round=>
  obtain⟨v2,s2,vs2,ss2,hc2,hr2,hrun,hk,hl,ho⟩:=hrel.out;rcases ho with⟨rfl,rfl,hb2,ht⟩|⟨d2,st2,qs2,c,told2,qi2,vq,rfl,hqi,rfl,rfl,hq1,hbs,hb2,ht⟩
  ·have HF:=hide' (show∃v' vs',RunQ wr X sv pt win g sc cv exV v' (servQ sv pt win (forg exV) (tellQs s) ss).1 vs' (servQ sv pt win (forg exV) (tellQs s) ss).2∧v'.k.C=C∧BdQ win T E (servQ sv pt win (forg exV) (tellQs s) ss).1 (servQ sv pt win (forg exV) (tellQs s) ss).2∧Chg M w wr∧Later w M (allQ v' vs')from by
    rw[←ht];exact⟨v2,vs2,hrun,hc2,hb2,hk,hl⟩)
   clear hrun hk hl hb2 ht hrel hc2 hr2 HTell HNext HON HM HA;go_wp2;go_end0;exact⟨rfl,HF.out⟩
  ·have HS:=jsendQ hrun hqi hq1 hbs;rw[hc2]at HS;have hmm:onM (.bool true) wr R=st2.held.length+1:=by
    show heldLen wr R+1=_;rw[←hr2,hrun.cli.cor.rd.len];rfl
   have HMM:=hide' hmm;have H2:=hide' (And.intro hb2 (And.intro ht (And.intro hk (And.intro hl (And.intro hc2 hr2)))));have HS:=hide' HS;clear hrun hk hl hb2 ht hrel hc2 hr2 hmm hq1 hqi hbs HON;generalize hq:vq.q=q at HS⊢;clear hq;go_wp2_with fail
   go_at_call 91;refine HS.out.mono ?_;rintro e w3 ⟨rfl,vs3,h3,k3,l3⟩;have HT3:=hide' (HTell.out w3 v2 _ vs3 _ h3 H2.out.2.2.2.2.1 H2.out.1);have H3:=hide' (And.intro k3 l3);clear h3 k3 l3;go_wp2_with fail
   go_at_call 89;refine HT3.out.mono ?_;rintro e w4 ⟨rfl,v4,h4,hc4,hr4,k4,l4,hb4⟩;have hk3:=H2.out.2.2.1.trans H3.out.1 H2.out.2.2.2.1;have hl3:=H2.out.2.2.2.1.trans H3.out.2 H2.out.2.2.1.size;have hk4:=hk3.trans k4 hl3.left;have hl4:=hl3.app hk3.size l4 (Later.refl _ _);have HN4:=hide' (HNext.out w4 v4 _ vs3 _ h4 hc4 (hr4.trans H2.out.2.2.2.2.2) hb4 hk4 hl4);clear h4 hc4 hr4 k4 l4 hk3 hl3 hk4 hl4 hb4;go_wp2_with fail
   go_at_call 90;refine HN4.out.mono ?_;rintro e w5 ⟨qv5,bv5,rfl,hon,hm⟩;rw[H2.out.2.1]at hon;have HM5:=hide' (show onM bv5 w5 R<onM (.bool true) wr R by rw[HMM.out];exact hm);have HON5:=hide' hon;clear hon hm;go_wp2_with fail
   go_roundw;case rel=>exact HON5
   case measure=>exact HM5.out
end Go.Proofs.YtlonjggfnleolaaGreatDoor
