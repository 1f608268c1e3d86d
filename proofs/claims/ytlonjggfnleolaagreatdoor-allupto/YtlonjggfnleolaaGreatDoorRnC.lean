import Derived.Test.YtlonjggfnleolaaGreatDoorBnE
import Derived.Test.YtlonjggfnleolaaGreatDoorRjM
import Derived.Defers
set_option linter.unusedVariables false
set_option maxHeartbeats 4000000
set_option maxRecDepth 100000
namespace Go.Proofs.YtlonjggfnleolaaGreatDoor
open Go.RowKit Go.Shelf Go.Proofs.Tryz
theorem BX (S x m C q i:Nat)(y:Value)(z:Int)(A B:Bool)(D E:Value)(k:Int)(g:Value)(a h:ByteArray)(j:Bool)(c:Int)(n:Nat)(s l:Bool)(o p:Value)(w:World)(t:w.heap[S]?=some (zT true x m y z A B D E))(u:w.heap[q]?=some (sx k g a h j c ((n+1:Nat):Int) s l o p))(r:n<=1000):Calls prog 132 #[.pointer (some ⟨S,0,none⟩),gS C q i] w fun e w'=>e= .returned (.tuple #[])/\w'.heap[q]?=some (sx k g a h j c (n:Int) true l o p)/\eH [q] w w':=by
 have K:=(tT t).1;have F:=cA t;have f:Hid (∀O,Below w.heap.size w (w.alloc O)):=fun O=>(ct _ _).alloc (PC _) O
 have H:=cb (fun O=>AL q k g a h j c n s l o p (w.alloc O) (((f.out O).block q (cA u)).trans u) r);unfold gS;go_enter func132,ntmps132;go_wp2_with fail
 refine(H.out _).mono ?_;rintro e L ⟨rfl,I,J⟩;have d:=cb (cd I J);go_wp2;(refine cE (pX rfl _ _ _) rfl ?_)
 exact⟨rfl,d.out.1,⟨d.out.2.os,d.out.2.tape,d.out.2.output,cP (f.out _).size d.out.2.size,fun b v r=>(d.out.2.block b (cH v (f.out _).size) r).trans ((f.out _).block b v)⟩⟩
theorem Fb (S R m j0 C q X kn kc i:Nat)(iv:Value)(iu:Int)(ip ic:Bool)(bp f:Value)(bs:List UInt8)(l:List (Nat×Value))(k:Int)(c wd a:ByteArray)(ft:Bool)(aw:Int)(n:Int)(fa re:Bool)(yv vv:Value)(w:World)(J:w.heap[S]?=some (zT false R m iv iu ip ic bp f))(aJ:R<65536)(T:PN w m l)(hv:∀p∈l,∃C q i,p.2=gS C q i)(Y:∀p∈l,p.1≠(R+j0) % 65536)(hy:∀j,j<j0->∃p∈l,p.1=(R+j) % 65536)(L:w.heap[q]?=some (sx k (.slice (some ⟨X,0,none⟩) kn kc) c wd ft aw n fa re yv vv))(hi:i<kn)(aK:kn<=kc)(aL:kn<=1000000)(aa:∃Z,w.heap[X]?=some (.cells Z 9 (0,0)))(u:w.cell? ⟨X,i,none⟩=some (.string a))(hk:k=1\/k=2\/k=3)(aM:a.size<=8)(aN:c.size<=40)(aO:bp= .pointer none\/bp= .pointer (some ⟨S,7,none⟩))(hR:ix w f bs)(aZ:bs.length+1000<=140737488355328):Calls prog 132 #[.pointer (some ⟨S,0,none⟩),gS C q i] w fun e w'=>e= .returned (.tuple #[])/\∃ab,w'.heap[S]?=some (zT false ((R+j0+1) % 65536) m iv iu ip ic (.pointer (some ⟨S,7,none⟩)) ab)/\PN w' m (l++[((R+j0) % 65536,gS C q i)])/\ix w' ab (bs++(Py k a c ((R+j0) % 65536)).data.toList)/\eH (S::m::f.ownBlock.toList) w w'/\(ab.ownBlock=f.ownBlock\/∃g,ab.ownBlock=some g/\w.heap.size<=g):=by
 obtain⟨O1,ax⟩:∃O,O=Obj.cells #[.pointer (some ⟨C,0,none⟩),.pointer (some ⟨q,0,none⟩),.int .i64 (i:Int)] 222:=⟨_,rfl⟩
 have K:Below w.heap.size w (w.alloc O1):=cU;have hX:=du w O1;have M:=(K.block S (cA J)).trans J;have A:=T.other (K.block m T.lt);have c0:=(tT J).1;have a3:=cA J;have aP:¬S=w.heap.size:=by omega
 have ac:=cb (Ez S R m j0 false iv iu ip ic bp f l (w.alloc O1) M aJ A.at_ hv Y hy);have HW:=cb (cd K (cd hX (cd M (cd A (cd J (cd T (cd L (cd aa (cd u hR)))))))));obtain⟨id,hid⟩:∃id,(R+j0) % 65536=id:=⟨_,rfl⟩
 obtain⟨al,ah⟩:∃al,(R+j0+1) % 65536=al:=⟨_,rfl⟩
 have ai:id<65536:=by omega
 rw[hid]at ac Y⊢;rw[ah]at ac⊢;have HK:=cb (cd Y hv);clear hid ah hy Y hv K hX M A J T L aa u hR;unfold gS;go_enter func132,ntmps132;go_wp2_with fail
 rw[<-ax];obtain⟨w0,aQ⟩:∃w0,w.alloc O1=w0:=⟨_,rfl⟩
 rw[aQ]at ac HW⊢;go_at_call 160;refine ac.out.mono ?_;rintro e w1 ⟨rfl,ad,k2⟩;obtain⟨K,hX,M,A,J,T,L,aa,u,hR⟩:=HW.out;have ay:w.heap.size≠S:=fun e=>aP e.symm
 have ae:m≠S:=fun e=>by
  obtain⟨es,s,d,_⟩:=T;rw[e,J]at d;unfold zT at d;cases d
 have x:=k2.keep hX (by simpa using ay);rw[ax]at x;have am:=A.other (k2.block m A.lt (by simpa using ae));obtain⟨U,aR,N,k3,aS⟩:=PN.update w1.drew m id (gS C q i) l am HK.out.1;have aT:m≠w.heap.size:=fun e=>by
  obtain⟨es,s,d,_⟩:=am;rw[e,x]at d;cases d
 have B:=k3.keep x (by simpa using fun e=>aT e.symm);have F:=k3.keep ad (by simpa using fun e=>ae e.symm);have d2:=(tT ad).2.2.1;have x0:=cn x 0;have x1:=cn x 1;have x2:=cn x 2;simp at x0 x1 x2;have a4:=cA ad;have a5:=cA x;have P:eH [S] w w1:=⟨k2.os.trans K.os,k2.tape.trans K.tape,k2.output.trans K.output,cP K.size k2.size,fun b D hn=>(k2.block b (cH D K.size) hn).trans (K.block b D)⟩
 have H3:=cb (cd P (cd B (cd F (cd N (cd k3 (cd ae aS))))));have aU:prog.follows .mixedOrders=true:=by kernel_rfl
 unfold gS at aR;have az:q≠S:=fun e=>by rw[e,J]at L;unfold sx zT at L;cases L
 have aA:q≠m:=fun e=>by obtain⟨es,s,d,_⟩:=T;rw[e,d]at L;unfold sx at L;cases L
 have af:∀{b:Nat} {o:Obj},w.heap[b]?=some o->b≠S->b≠m->U.heap[b]?=some o:=fun D d h2=>k3.keep (a:=w1.drew) (P.keep D (by simpa using d)) (by simpa using h2)
 have an:=af L az aA;obtain⟨Zk,y⟩:=aa;have aB:X≠S:=fun e=>by rw[e,J]at y;unfold zT at y;cases y
 have aj:X≠m:=fun e=>by obtain⟨es,s,d,_⟩:=T;rw[e,d]at y;cases y
 have ao:=af y aB aj;have Q:U.cell? ⟨X,i,none⟩=some (.string a):=(cS (a:=⟨X,i,none⟩) (ao.trans y.symm)).trans u;have ap:f.ownBlock≠some S/\f.ownBlock≠some m:=by
  refine⟨fun e=>?_,fun e=>?_⟩
  .obtain⟨ag,fz,H⟩:=hR.eC e;rw[J]at H;unfold zT at H;cases H
  .obtain⟨ag,fz,H⟩:=hR.eC e;obtain⟨es,s,d,_⟩:=T;rw[d]at H;cases H
 have aq:ix U f bs:=hR.other (fun g hg=>by
  obtain⟨ag,fz,H⟩:=hR.eC hg;exact(af H (fun e=>ap.1 (by rw[hg,e])) (fun e=>ap.2 (by rw[hg,e]))).trans H.symm)
 have aC:Hid (∀W,Below U.heap.size U W->Calls prog 162 #[gS C q i] W fun e w'=>∃b',W.heap.size<=b'/\e= .returned (.agg #[.int .i64 k,.slice (some ⟨b',0,none⟩) 1 1,.string c,.string ⟨#[]⟩,.bool false,.int .i64 0])/\w'.heap[b']?=some (.cells #[.string a] 9 (0,0))/\Below W.heap.size W w'):=fun W hW=>
  xu C q X kn kc i k c wd a ft aw n fa re yv vv W ((hW.block q (cA an)).trans an) hi aK aL ((hW.cell (p:=⟨X,i,none⟩) (cA ao)).trans Q)
 have aV:=cb (fun(W:World) (b:Nat) (D:W.heap[b]?=some (.cells #[.string a] 9 (0,0)))=>Ca k b a c id W hk D aM aN ai);have a6:(Py k a c id).size<=1000:=by
  have h7:(gO 1 k a.size c.size id).size=7:=by unfold gO;rw[qC];rfl
  have:(Py k a c id).size=(gO 1 k a.size c.size id).size+a.size+c.size:=by unfold Py;rw[cR,cR]
  omega
 have ar:w.heap.size∉S::f.ownBlock.toList:=by
  intro au;rcases cQ.1 au with h|h
  .exact ay h
  .have av:f.ownBlock=some w.heap.size:=by
    cases I:f.ownBlock with
    |none=>rw[I]at h;cases h
    |some g=>rw[I]at h;simp at h;rw[h]
   obtain⟨ag,fz,H⟩:=hR.eC av;have:=cA H;omega
 have aW:m∉S::f.ownBlock.toList:=by
  intro au;rcases cQ.1 au with h|h
  .exact ae h
  .cases I:f.ownBlock with
   |none=>rw[I]at h;cases h
   |some g=>rw[I]at h;simp at h;exact ap.2 (by rw[I,h])
 have aX:Hid (∀W,Below U.heap.size U W->Calls prog 128 #[.pointer (some ⟨S,7,none⟩),.string (Py k a c id)] W fun e w'=>(∃v,e= .returned v)/\∃v',w'.heap[S]?=some (zT false al m iv iu ip ic (.pointer (some ⟨S,7,none⟩)) v')/\ix w' v' (bs++(Py k a c id).data.toList)/\eH (S::f.ownBlock.toList) W w'/\(v'.ownBlock=f.ownBlock\/∃g,v'.ownBlock=some g/\W.heap.size<=g)):=fun W hW=>by
  refine(Ac S 7 143 9 _ f bs (Py k a c id) W ((hW.block S (cA F)).trans F) rfl (by omega) RX (by decide) ?_ rfl (aq.other (fun g hg=>by obtain⟨ag,fz,H⟩:=aq.eC hg;exact hW.block g (cA H))) (by omega)).mono ?_
  .rcases aO with h|h
   .exact .inl (by rw[h];rfl)
   .exact .inr (by rw[h];rfl)
  .rintro e w' ⟨he,v',d,h2,V,h4⟩;exact⟨he,v',d,h2,V,h4⟩
 have y0:=cn B 0;have y1:=cn B 1;have y2:=cn B 2;simp at y0 y1 y2;have E:=cA B;have a0:=cA F;have a1:=NW id ai;clear K hX M A J T L u hR x am B F ad k2 P k3 N c0 af an y ao Q aq az aA aB aj;generalize ak:Py k a c id=a7 at*;have aD:=cb ak;clear ak;go_wp2;go_region
 go_wp2_with fail
 unfold gS at aC;go_region_held3 (fun W'=>W'.cell? ⟨w.heap.size,0,none⟩=some (.pointer (some ⟨C,0,none⟩))/\W'.cell? ⟨w.heap.size,1,none⟩=some (.pointer (some ⟨q,0,none⟩))/\W'.cell? ⟨w.heap.size,2,none⟩=some (.int .i64 (i:Int))) (go_keep) (first
  |(go_at_call 162;refine(aC.out _ ?hx).mono ?_;(case hx=>repeat(first|with_reducible exact ct _ _|with_reducible refine dV ?_));rintro e w3 ⟨b',av,rfl,aE,aF⟩;have t:=cb (cd (mH aF) aE);have z0:=(t.out.1.cell (p:=⟨w.heap.size,0,none⟩) E).trans y0;have z1:=(t.out.1.cell (p:=⟨w.heap.size,1,none⟩) E).trans y1;have z2:=(t.out.1.cell (p:=⟨w.heap.size,2,none⟩) E).trans y2;have r:w.heap.size<w3.heap.size:=cH E t.out.1.size;clear aF aE av y0 y1 y2)
  |(go_at_call 161;refine(aV.out _ b' ?hx).mono ?_;(case hx=>exact t.out.2);rintro e w4 ⟨rfl,aG⟩;have z:=cb aG;have u0:=(z.out.cell (p:=⟨w.heap.size,0,none⟩) r).trans z0;have u1:=(z.out.cell (p:=⟨w.heap.size,1,none⟩) r).trans z1;have u2:=(z.out.cell (p:=⟨w.heap.size,2,none⟩) r).trans z2;clear aG z0 z1 z2)
  |(go_at_call 128;refine(aX.out _ ?hx).mono ?_;(case hx=>exact t.out.1.trans (z.out.mono t.out.1.size));rintro e w5 ⟨⟨ev,rfl⟩,v',d,h2,V,h4⟩;have H5:=cb (cd d (cd h2 (cd V h4)));have t0:=(cS (a:=⟨w.heap.size,0,none⟩) (V.block w.heap.size (cH r z.out.size) ar)).trans u0;have t1:=(cS (a:=⟨w.heap.size,1,none⟩) (V.block w.heap.size (cH r z.out.size) ar)).trans u1;have t2:=(cS (a:=⟨w.heap.size,2,none⟩) (V.block w.heap.size (cH r z.out.size) ar)).trans u2;clear d h2 V h4 u0 u1 u2)
  |fail)
 all_goals go_wp2
 go_end0;obtain⟨P,B,F,N,k3,_,a2⟩:=H3.out;obtain⟨d,h2,V,h4⟩:=H5.out;have aH:Below U.heap.size U w4:=t.out.1.trans (z.out.mono t.out.1.size);have aI:PN w4 m (l++[(id,gS C q i)]):=N.other (aH.block m N.lt);have c1:eH (S::m::f.ownBlock.toList) w w1:=P.more (by simp);have c2:eH (S::m::f.ownBlock.toList) w U:=c1.trans (eH.wK k3) (fun b D=> .inl (by simp at D;simp[D]));have c4:eH (S::m::f.ownBlock.toList) w w4:=c2.trans (eH.dP (M:=[]) aH) (fun b D=>by cases D);have c5:eH (S::m::f.ownBlock.toList) w w5:=c4.trans V (fun b D=> .inl (by simp at D⊢;rcases D with h|h<;>simp[h]));rw[aD.out];refine⟨rfl,v',d,aI.other (V.block m aI.lt aW),h2,c5,?_⟩
 rcases h4 with h|⟨g,hg,aY⟩
 .exact .inl h
 .exact .inr ⟨g,hg,cP c4.size aY⟩
structure dS where
 up:Bool
 next:Nat
 held:List UInt8
 je:List UInt8
def mM (a:List PS):List (Nat×Nat):=a.filterMap (fun p=>match p with|⟨.inl (some (o,id))⟩=>some (o,id)|_=>none)
def jX (a:List QS):List (Nat×Nat):=a.flatMap (fun x=>mM x.ps)
def iD (o:Nat)(l:List (Nat×Nat)):List Nat:=(l.filter (fun p=>p.1==o)).map (·.2)
theorem wj {o id:Nat}{l:List (Nat×Nat)}:id∈iD o l↔(o,id)∈l:=by
 unfold iD;rw[dA];constructor
 .rintro ⟨p,a,rfl⟩;obtain⟨b,c⟩:=px.1 a;have:p.1=o:=by grind
  rw[<-this];exact b
 .intro h;exact⟨(o,id),px.2 ⟨h,by simp⟩,rfl⟩
theorem Qc (o:Nat)(l:List (Nat×Nat)):(iD o l).length<=l.length:=by
 unfold iD;rw[dp];exact List.length_filter_le _ _
def kX (b:Nat)(a:List Nat):Nat:=((List.range (a.length+1)).find? (fun j=> !a.contains ((b+j) % 65536))).getD 0
theorem Hx:∀(a b:List Nat),a.Nodup->(∀x∈a,x∈b)->a.length<=b.length:=by
 intro a;induction a with
 |nil=>intro b _ _;exact cG _
 |cons x a f=>
  intro b g c;obtain⟨h,i⟩:=py.1 g;have d:=c x (by simp);have:=f (b.erase x) i (fun y j=>(List.mem_erase_of_ne (fun e=>h (by grind))).2 (c y (by simp[j])));rw[List.length_erase_of_mem d]at this;have k:=List.length_pos_of_mem d;simp only[dc]
  omega
theorem oL (d:Nat)(c:List Nat)(n:c.length<65536):kX d c<=c.length/\(d+kX d c) % 65536∉c/\∀j,j<kX d c->(d+j) % 65536∈c:=by
 unfold kX;cases f:(List.range (c.length+1)).find? (fun j=> !c.contains ((d+j) % 65536))with
 |none=>
  rw[List.find?_eq_none]at f;have k:((List.range (c.length+1)).map (fun j=>(d+j) % 65536)).Nodup:=by
   refine List.Pairwise.map _ (R:=fun a b=>a<b/\b<65536) (fun a b h e=>?_) ?_
   .omega
   .rw[List.pairwise_iff_getElem];intro i j g l m;simp at g l⊢;omega
  have:=Hx _ c k (fun x o=>by grind)
  simp at this;omega
 |some j=>
  have p:=List.find?_some f;have q:=List.mem_of_find?_eq_some f;simp only[Option.getD_some]
  refine⟨by grind,by simp_all,fun i g=>?_⟩;rw[List.find?_range_eq_some]at f;have:=f.2.2 i g;simpa using this
theorem CI (b:Nat)(a:List Nat)(c:a.length<65536)(j:Nat)(d:(b+j) % 65536∉a)(e:∀i,i<j->(b+i) % 65536∈a):kX b a=j:=by
 obtain⟨_,f,g⟩:=oL b a c;rcases Nat.lt_trichotomy (kX b a) j with h|h|h
 .exact absurd (e _ h) f
 .exact h
 .exact absurd (g _ h) d
def qw (b pt:Nat)(k:Int)(a:ByteArray)(e:List (Nat×Nat))(d:List dS×List PS)(c:ByteArray):List dS×List PS:=
 match d.1[fE b pt c]?with
 |none=>(d.1,d.2++[.fl])
 |some s=>if s.up=true then
  (d.1.set (fE b pt c) {s with next:=(s.next+kX s.next (iD (fE b pt c) (e++mM d.2))+1) % 65536,je:=s.je++(Py k c a ((s.next+kX s.next (iD (fE b pt c) (e++mM d.2))) % 65536)).data.toList},
   d.2++[.op (fE b pt c) ((s.next+kX s.next (iD (fE b pt c) (e++mM d.2))) % 65536)])
  else(d.1,d.2++[.fl])
def fK (b pt:Nat)(k:Int)(a:ByteArray)(c:List (Nat×Nat))(d:List dS)(e:List ByteArray):List dS×List PS:=e.foldl (qw b pt k a c) (d,[])
section
variable (b pt:Nat)(k:Int)(a:ByteArray)
theorem qO (d:List (Nat×Nat))(e:List dS)(f:List ByteArray)(c:ByteArray):fK b pt k a d e (f++[c])=qw b pt k a d (fK b pt k a d e f) c:=by
 unfold fK;rw[List.foldl_append];rfl
theorem IB (e:List (Nat×Nat))(d:List dS×List PS)(c:ByteArray):(qw b pt k a e d c).1.length=d.1.length/\(qw b pt k a e d c).2.length=d.2.length+1:=by
 unfold qw;split
 .simp
 .split<;>simp
theorem qx (e:List (Nat×Nat))(f:List dS)(P:List ByteArray->List dS×List PS->Prop)(h:P [] (f,[]))(i:∀c d g,P c g->P (c++[d]) (qw b pt k a e g d)):∀c,P c (fK b pt k a e f c):=by
 intro c;have:∀n,n<=c.length->P (c.take n) (fK b pt k a e f (c.take n)):=by
  intro n;induction n with
  |zero=>intro _;exact h
  |succ n j=>
   intro m;have l:=j (by omega);rw[eV,cp (by omega)];simp only[Option.toList_some]
   rw[qO];exact i _ _ _ l
 have:=this c.length (PC _);rwa [gd]at this
theorem qy (e:List (Nat×Nat))(d:List dS)(c:List ByteArray):(fK b pt k a e d c).1.length=d.length/\(fK b pt k a e d c).2.length=c.length:=
 qx b pt k a e d (fun c f=>f.1.length=d.length/\f.2.length=c.length) ⟨rfl,rfl⟩ (fun c g f h=>by
  obtain⟨i,j⟩:=IB b pt k a e f g;exact⟨i.trans h.1,by grind⟩) c
theorem wB (n:a.size<=40)(j:List (Nat×Nat))(l:List dS)(M:Nat)(h:∀s∈l,s.next<65536/\s.je.length<=M)(c:List ByteArray)(o:∀x∈c,x.size<=8):(∀s∈(fK b pt k a j l c).1,s.next<65536/\s.je.length<=M+1000*c.length):=
 qx b pt k a j l (fun c m=>(∀x∈c,x.size<=8)->∀s∈m.1,s.next<65536/\s.je.length<=M+1000*c.length) (fun _ s d=>by simp_all) (fun c e m f g s d=>by
  have f:=f (fun x p=>g x (by simp[p]));have i:=g e (by simp);unfold qw at d;rw[cI,fu];split at d
  .have:=f s d;exact⟨this.1,by omega⟩
  .rename_i u q;split at d
   .rcases da d with h1|h1
    .have:=f s h1;exact⟨this.1,by omega⟩
    .subst h1;have r:=f u (cu q);have t:=za k e a ((u.next+kX u.next (iD (fE b pt e) (j++mM m.2))) % 65536) i n;simp only[cI]
     omega
   .have:=f s d;exact⟨this.1,by omega⟩) c o
theorem IE (f:List (Nat×Nat))(g:List dS)(d:List ByteArray):∀p∈(fK b pt k a f g d).2,p= .fl\/∃o id,p= .op o id:=
 qx b pt k a f g (fun d i=>∀p∈i.2,p= .fl\/∃o id,p= .op o id) (fun p c=>by cases c) (fun d j i e p c=>by
  unfold qw at c;split at c
  .rcases cr.1 c with h|h
   .exact e p h
   .simp at h;exact .inl h
  .split at c
   .rcases cr.1 c with h|h
    .exact e p h
    .simp at h;exact .inr ⟨_,_,h⟩
   .rcases cr.1 c with h|h
    .exact e p h
    .simp at h;exact .inl h) d
end
variable {W m:World}{s:dS}{b o:Nat}{g:List dS}{l:List (Nat×Value)}{f:List (Nat×Nat×Value)}
structure fe where
 S:Nat
 m:Nat
 hb:Option Nat
 bp:Value
 bv:Value
 l:List (Nat×Value)
def fe.cM (v:fe):List Nat:=v.S::v.m::(v.hb.toList++v.bv.ownBlock.toList)
structure kD (W:World)(v:fe)(s:dS):Prop where
 DV:mj W v.S v.hb ⟨!s.up,s.next,v.m,v.bp,v.bv⟩ ⟨s.held,false,false⟩
 mp:PN W v.m v.l
 Bj:v.bp= .pointer none\/v.bp= .pointer (some ⟨v.S,7,none⟩)
 row:ix W v.bv s.je
 nx:s.next<65536
 ab:∀b,v.bv.ownBlock=some b->v.hb≠some b
section
variable {v:fe}
theorem kD.eC (h:kD W v s):∃a b c d,W.heap[v.S]?=some (zT (!s.up) s.next v.m a b c d v.bp v.bv):=by
 obtain⟨⟨a,b,e,_⟩,_⟩:=h.DV;exact⟨_,_,_,_,e⟩
theorem kD.kind (h:kD W v s):∀b∈v.cM,(∃Z T f,W.heap[b]?=some (.cells Z T f)/\(T=143\/T=5))\/∃e c,W.heap[b]?=some (.map e c):=by
 intro b hb;rcases cQ.1 hb with rfl|hb
 .obtain⟨g,i,j,k,a⟩:=h.eC;exact .inl ⟨_,_,_,a,.inl rfl⟩
 rcases cQ.1 hb with rfl|hb
 .obtain⟨e,c,a,_⟩:=h.mp;exact .inr ⟨_,_,a⟩
 rcases cr.1 hb with hb|hb
 .obtain⟨d,a⟩:=h.DV.As (lj hb);exact .inl ⟨_,_,_,a,.inr rfl⟩
 .obtain⟨d,l,a⟩:=h.row.eC (ia hb);exact .inl ⟨_,_,_,a,.inr rfl⟩
theorem kD.old (h:kD W v s):∀b∈v.cM,b<W.heap.size:=fun b d=>by
 rcases h.kind b d with⟨Z,T,f,a,_⟩|⟨e,c,a⟩
 .exact cA a
 .exact cA a
theorem kD.keep (h:kD W v s)(k:∀b∈v.cM,m.heap[b]?=W.heap[b]?):kD m v s:=
 ⟨h.DV.keep (fun b a=>k b (by rcases a with e|e<;>simp[fe.cM,e])),h.mp.other (k _ (by simp[fe.cM])),h.Bj,h.row.other (fun g c=>k g (by simp[fe.cM,c])),h.nx,h.ab⟩
theorem kD.nS (h:kD W v s):v.S≠v.m/\v.hb≠some v.S/\v.bv.ownBlock≠some v.S/\v.hb≠some v.m/\v.bv.ownBlock≠some v.m:=by
 obtain⟨i,j,k,l,d⟩:=h.eC;obtain⟨m,c,f,_⟩:=h.mp;refine⟨fun e=>?_,h.DV.ne,fun e=>?_,fun e=>?_,fun e=>?_⟩
 .rw[e,f]at d;cases d
 .obtain⟨b,g,a⟩:=h.row.eC e;rw[d]at a;cases a
 .obtain⟨b,a⟩:=h.DV.As e;rw[f]at a;cases a
 .obtain⟨b,g,a⟩:=h.row.eC e;rw[f]at a;cases a
end
structure ke (W:World)(vs:List fe)(ss:List dS):Prop where
 len:vs.length=ss.length
 ok:∀(j:Nat) (v:fe) (s:dS),vs[j]?=some v->ss[j]?=some s->kD W v s
 ap:∀(i j:Nat) (v u:fe),i≠j->vs[i]?=some v->vs[j]?=some u->∀b∈v.cM,b∉u.cM
def jK (a:List fe):List Nat:=(a.map fe.cM).flatten
section
variable {a:List fe}
theorem gJ:b∈jK a↔∃(j:Nat) (v:fe),a[j]?=some v/\b∈v.cM:=by
 unfold jK;rw[kL];constructor
 .rintro ⟨l,f,c⟩;obtain⟨v,d,rfl⟩:=dA.1 f;obtain⟨j,g,e⟩:=dG.1 d;exact⟨j,v,by grind,c⟩
 .rintro ⟨j,v,d,c⟩;exact⟨v.cM,dA.2 ⟨v,cu d,rfl⟩,c⟩
theorem ke.get (h:ke W a g){j:Nat}(c:j<a.length):∃v s,a[j]?=some v/\g[j]?=some s/\kD W v s:=by
 have b:j<g.length:=by rw[<-h.len];exact c
 exact⟨_,_,cp c,cp b,h.ok j _ _ (cp c) (cp b)⟩
theorem ke.old (h:ke W a g):∀b∈jK a,b<W.heap.size:=by
 intro b i;obtain⟨j,v,f,d⟩:=gJ.1 i;obtain⟨k,s,c,l,e⟩:=h.get (cq.1 f).1;rw[f]at c;cases c;exact e.old b d
theorem ke.keep (h:ke W a g)(k:∀b∈jK a,m.heap[b]?=W.heap[b]?):ke m a g:=
 ⟨h.len,fun j v s c d=>(h.ok j v s c d).keep (fun b e=>k b (gJ.2 ⟨j,v,c,e⟩)),h.ap⟩
theorem ke.below (h:ke W a g)(hb:Below W.heap.size W m):ke m a g:=h.keep (fun b c=>hb.block b (h.old b c))
theorem ke.step (h:ke W a g){v v':fe}{s':dS}(w:a[o]?=some v)(F:eH v.cM W m)(H:kD m v' s')(A:dB W v.cM v'.cM):ke m (a.set o v') (g.set o s')/\dB W (jK a) (jK (a.set o v')):=by
 have B:=(cq.1 w).1;refine⟨⟨by simp[h.len],fun j u s c z=>?_,fun i j C D d q n b f l=>?_⟩,fun b t=>?_⟩
 .by_cases r:o=j
  .subst r;rw[cK B]at c;rw[cK (by grind)]at z;cases c;cases z;exact H
  .rw[de r]at c z;have x:=h.ok j u s c z;exact x.keep (fun b t=>F.block b (x.old b t) (h.ap j o u v (fun e=>r e.symm) c w b t))
 .rw[dD]at q n;have p:=fun k u c b t=>h.old b (gJ.2 ⟨k,u,c,t⟩)
  split at q
  .rename_i I;subst I;split at n
   .rename_i E;exact d E
   .simp at q;subst q;rcases A b f with h3|h3
    .exact h.ap o j v D d w n b h3 l
    .have:=p j D n b l;omega
  .split at n
   .rename_i E;subst E;simp at n;subst n;rcases A b l with h3|h3
    .exact h.ap i o C v d q w b f h3
    .have:=p i C q b f;omega
   .exact h.ap i j C D d q n b f l
 .obtain⟨j,u,c,y⟩:=gJ.1 t;rw[dD]at c;split at c
  .rename_i e;simp at c;subst c;rcases A b y with h3|h3
   .exact .inl (gJ.2 ⟨o,v,w,h3⟩)
   .exact .inr h3
  .exact .inl (gJ.2 ⟨j,u,c,y⟩)
theorem ke.apart (h:ke W a g){T:Nat}{Z:Array Value}{f:Nat×Nat}(hb:W.heap[b]?=some (.cells Z T f))(n:T≠143)(o:T≠5):b∉jK a:=by
 intro p;obtain⟨j,v,m,k⟩:=gJ.1 p;obtain⟨r,s,d,t,l⟩:=h.get (cq.1 m).1;rw[m]at d;cases d;rcases l.kind b k with⟨u,w,x,i,q⟩|⟨y,c,i⟩
 .rw[hb]at i;obtain⟨_,rfl,_⟩:=i;rcases q with e|e
  .exact n e
  .exact o e
 .rw[hb]at i;cases i
end
def rE (C q:Nat):Nat->List PS->List (Nat×Nat×Value)
 |_,[]=>[]
 |i,⟨.inl (some (o,id))⟩::a=>(o,id,gS C q i)::rE C q (i+1) a
 |i,_::a=>rE C q (i+1) a
section
variable (C q:Nat)
theorem vw:∀(a b:List PS) (i:Nat),rE C q i (a++b)=rE C q i a++rE C q (i+a.length) b:=by
 intro a;induction a with
 |nil=>simp[rE]
 |cons p a c=>
  intro b i;have e:i+(a.length+1)=i+1+a.length:=by omega
  cases p using PS.el<;>simp[rE,c,e]
theorem NF:∀(n i:Nat),rE C q i (List.replicate n .un)=[]:=by
 intro n;induction n with
 |zero=>intro i;rfl
 |succ n a=>intro i;exact a (i+1)
theorem EW:∀(a:List PS) (i:Nat),(rE C q i a).map (fun p=>(p.1,p.2.1))=mM a:=by
 intro a;induction a with
 |nil=>intro i;rfl
 |cons p a b=>cases p using PS.el<;>simp[rE,mM,b]<;>exact b
theorem yK:∀(a:List PS) (i:Nat),∀p∈rE C q i a,∃j,i<=j/\p.2.2=gS C q j/\a[j-i]?=some (.op p.1 p.2.1):=by
 intro a;induction a with
 |nil=>intro i p hp;cases hp
 |cons x a c=>
  intro i p hp;have b:p∈rE C q (i+1) a->∃j:Nat,i<=j/\p.2.2=gS C q j/\(x::a)[j-i]?=some (.op p.1 p.2.1):=fun hp=>by
   obtain⟨j,g,d,f⟩:=c (i+1) p hp;refine⟨j,by omega,d,?_⟩;have e:j-i=(j-(i+1))+1:=by omega
   rw[e,kI];exact f
  cases x using PS.el with
  |op o id=>
   rcases cQ.1 hp with rfl|hp
   .exact⟨i,PC _,rfl,by simp⟩
   .exact b hp
  |un=>exact b hp
  |an h v=>exact b hp
  |fl=>exact b hp
end
def jq (C:Nat)(d:List QI)(c:List QS):List (Nat×Nat×Value):=(d.zip c).flatMap (fun p=>rE C p.1.q 0 p.2.ps)
section
variable (C:Nat)(v:QI)(d:List QI)(x:QS)(c:List QS)
theorem tQ:jq C (v::d) (x::c)=rE C v.q 0 x.ps++jq C d c:=by unfold jq;simp
theorem Ic (h:d.length=c.length):jq C (d++[v]) (c++[x])=jq C d c++rE C v.q 0 x.ps:=by
 unfold jq;rw[pz h,jD];simp
end
theorem wY (C:Nat):∀(d:List QI) (c:List QS),d.length=c.length->(jq C d c).map (fun p=>(p.1,p.2.1))=jX c:=by
 intro d;induction d with
 |nil=>intro c h;cases c with
  |nil=>rfl
  |cons x c=>simp at h
 |cons v d a=>
  intro c h;cases c with
  |nil=>simp at h
  |cons x c=>
   rw[tQ,dF,EW,a c (by simp_all)];unfold jX;simp
structure PM (o:Nat)(l:List (Nat×Value))(os:List (Nat×Nat×Value)):Prop where
 pm:l.Perm ((os.filter (fun p=>p.1==o)).map (·.2))
 nd:(l.map (·.1)).Nodup
theorem PM.perm {a:List (Nat×Nat×Value)}(h:PM o l f)(b:f.Perm a):PM o l a:=⟨h.pm.trans ((b.filter _).map _),h.nd⟩
theorem PM.mem (h:PM o l f){p:Nat×Value}:p∈l↔(o,p)∈f:=by
 rw[h.pm.mem_iff,dA];constructor
 .rintro ⟨q,a,rfl⟩;obtain⟨b,d⟩:=px.1 a;have:q.1=o:=by grind
  rw[<-this];exact b
 .intro c;exact⟨(o,p),px.2 ⟨c,by simp⟩,rfl⟩
theorem PM.ids (h:PM o l f)(id:Nat):(∃p∈l,p.1=id)↔id∈iD o (f.map (fun p=>(p.1,p.2.1))):=by
 rw[wj,dA];constructor
 .rintro ⟨p,a,rfl⟩;exact⟨(o,p),h.mem.1 a,rfl⟩
 .rintro ⟨q,c,e⟩;have d:q.1=o:=congrArg Prod.fst e;have b:=congrArg Prod.snd e;exact⟨q.2,h.mem.2 (by grind),b⟩
theorem PM.snoc (h:PM o l f)(id:Nat)(v:Value)(d:∀p∈l,p.1≠id):PM o (l++[(id,v)]) (f++[(o,id,v)]):=by
 refine⟨?_,?_⟩
 .rw[gN,dF];refine List.Perm.append h.pm ?_;simp
 .rw[dF];refine fJ.2 ⟨h.nd,by simp,fun a g b c e=>?_⟩;simp at c;obtain⟨p,i,j⟩:=dA.1 g;exact d p i (by rw[j,e,c])
theorem PM.OT {a:Nat}(h:PM o l f)(id:Nat)(v:Value)(b:a≠o):PM o l (f++[(a,id,v)]):=by
 refine⟨?_,h.nd⟩;rw[gN,dF];have:([(a,id,v)].filter (fun p=>p.1==o))=[]:=by simp[b]
 rw[this];simpa using h.pm
open Go.Conc
variable {W l:World}{X n pt f g m:Nat}{o:Value}{e:List (Nat×Nat×Value)}{v:fB}{s:dE}{i:List fe}{j:List dS}{d:QI}{c:iO}{a b:List PS}
def kq (l:List (Nat×Nat×Value)):List (Nat×Nat):=l.map (fun p=>(p.1,p.2.1))
structure mY (W:World)(X sv pt win g sc:Nat)(cv:Value)(exV:List (Nat×Nat×Value))(v:fB)(s:dE)(vs:List fe)(ss:List dS):Prop where
 eC:W.heap[X]?=some (CQ sv pt win cv (.slice (some ⟨g,0,none⟩) sv sc))
 gb:∃Zg,W.heap[g]?=some (.cells Zg 137 (0,0))/\∀(j:Nat) (u:fe),vs[j]?=some u->Zg[j]?=some (.pointer (some ⟨u.S,0,none⟩))
 len:vs.length=sv
 s1:1<=sv
 s4:sv<=4
 Re:sv<=sc
 yM:pt<=16
 jV:gL W win v s
 ji:ke W vs ss
 ap:∀b∈v.cM,b∉jK vs
 mr:∀(o:Nat) (u:fe),vs[o]?=some u->PM o u.l (exV++jq v.k.C v.qi s.qs)
 pv:∀p∈exV,∃(C q i:Nat),p.2.2=gS C q i
 NX:exV.length<=100
theorem mY.nX (h:mY W X n pt f g m o e v s i j):X∉v.cM/\g∉v.cM/\X∉jK i/\g∉jK i:=by
 obtain⟨b,a,c⟩:=h.gb;exact⟨h.jV.apart h.eC (by decide),h.jV.apart a (by decide),h.ji.apart h.eC (by decide) (by decide),h.ji.apart a (by decide) (by decide)⟩
theorem mY.Qe {v':fB}{s':dE}(h:mY W X n pt f g m o e v s i j)(k:eH v.cM W l)(d:dB W v.cM v'.cM)(p:gL l f v' s')(q:jq v'.k.C v'.qi s'.qs=jq v.k.C v.qi s.qs):mY l X n pt f g m o e v' s' i j:=by
 obtain⟨r,t,_,_⟩:=h.nX;obtain⟨u,w,x⟩:=h.gb;refine⟨k.keep h.eC r,⟨u,k.keep w t,x⟩,h.len,h.s1,h.s4,h.Re,h.yM,p,h.ji.keep (fun b a=>k.block b (h.ji.old b a) (fun c=>h.ap b c a)),fun b a c=>?_,by rw[q];exact h.mr,h.pv,h.NX⟩;rcases d b a with h3|h3
 .exact h.ap b h3 c
 .have:=h.ji.old b c;omega
theorem vu (a:List PS):(mM a).length<=a.length:=List.length_filterMap_le _ _
theorem yL:∀(a:List QS) (N:Nat),(∀x∈a,x.ps.length<=N)->(jX a).length<=N*a.length:=by
 intro a;induction a with
 |nil=>intro N _;exact cG _
 |cons x a b=>
  intro N h;have c:=b N (fun y d=>h y (by simp[d]));have e:=h x (by simp);have f:=vu x.ps;unfold jX at c⊢;rw[nZ,cI,dc,Nat.mul_add,PZ];omega
theorem gL.NJ (h:gL W f v s){i:Nat}{x c:QS}(o:v.qi[i]?=some d)(g:s.qs[i]?=some x)(k:∀b∈v.cM,b∉d.cM->l.heap[b]?=W.heap[b]?)(p:kN l d c)(q:c.c=x.c)(r:oJ s.d c):gL l f v {s with qs:=s.qs.set i c}:=by
 have a:=fun b n=>k b (cr.2 (.inl n)) (fun t=>h.ap b (jy.2 ⟨d,cu o,t⟩) n)
 have m:(s.qs.set i c).map (·.c)=s.qs.map (·.c):=by
  apply fS;intro j;rw[cL,cL,dD];split
  .rename_i e;subst e;rw[g];simp[q,(List.getElem?_eq_some_iff.1 g).1]
  .rfl
 refine⟨?_,h.qk,h.qu.set o (fun b n u=>k b (cr.2 (.inr n)) u) p,fun y w=>?_⟩
 .have:=h.uz.keep a;show gM l f v.k ⟨s.d,s.st,(s.qs.set i c).map (·.c),s.told⟩;rw[m];exact this
 .rcases da w with h1|h1
  .exact h.ok y h1
  .rw[h1];exact r
theorem oJ.part {d:Int}{p p':PS}(h:oJ d ⟨c,a++p::b⟩)(e:tV c.kind p'):oJ d ⟨c,a++p'::b⟩:=
 ⟨h.w,by have:=h.len;simpa using this,fun y f=>by
  rcases cr.1 f with h1|h1
  .exact h.ps y (cr.2 (.inl h1))
  .rcases cQ.1 h1 with h1|h1
   .rw[h1];exact e
   .exact h.ps y (cr.2 (.inr (cJ _ h1)))⟩
section
variable (d:QI)(c:iO)(a b:List PS)
theorem Ot (o id:Nat):nz d ⟨c,a++ .op o id::b⟩=nz d ⟨c,a++ .un::b⟩/\qX (a++ .op o id::b)=qX (a++ .un::b)/\rB (a++ .op o id::b)=rB (a++ .un::b):=by
 refine⟨?_,?_,?_⟩
 .unfold nz QS.n QS.fa QS.re;simp[PS.bad,PS.ref,List.countP_cons,PS.opn]
 .unfold qX;simp[PS.yes]
 .unfold rB;simp[PS.val]
theorem Sg:(QS.n ⟨c,a++ .un::b⟩=QS.n ⟨c,a++ .fl::b⟩+1)/\nz d ⟨c,a++ .fl::b⟩={nz d ⟨c,a++ .un::b⟩with n:=QS.n ⟨c,a++ .fl::b⟩,fa:=true}/\qX (a++ .fl::b)=qX (a++ .un::b)/\rB (a++ .fl::b)=rB (a++ .un::b):=by
 refine⟨?_,?_,?_,?_⟩
 .unfold QS.n;simp[List.countP_cons,PS.opn];try omega
 .unfold nz QS.n QS.fa QS.re;simp[PS.opn,PS.bad,PS.ref]
 .unfold qX;simp[PS.yes]
 .unfold rB;simp[PS.val]
end
theorem kN.Ph (o id:Nat)(h:kN W d ⟨c,a++ .un::b⟩):kN W d ⟨c,a++ .op o id::b⟩:=by
 obtain⟨e,f,g⟩:=Ot d c a b o id;refine⟨?_,?_,?_,h.keys⟩
 .rw[e];exact h.eC
 .rw[f];exact h.yes
 .rw[g];exact h.val
theorem kN.Pg (h:kN W d ⟨c,a++ .un::b⟩)(k:eH [d.q] W l)(q:l.heap[d.q]?=some (BD {nz d ⟨c,a++ .un::b⟩with n:=QS.n ⟨c,a++ .fl::b⟩,fa:=true})):kN l d ⟨c,a++ .fl::b⟩:=by
 obtain⟨_,r,g,i⟩:=Sg d c a b;have f:=h.nd;unfold QI.cM at f;simp at f;have j:=fun b s m=>k.block b (h.old b s) (by simpa using m)
 refine⟨?_,?_,?_,?_⟩
 .rw[r];exact q
 .rw[g];exact(j _ (by simp[QI.cM]) (fun e=>f.1.1 e.symm)).trans h.yes
 .rw[i];exact(j _ (by simp[QI.cM]) (fun e=>f.1.2.1 e.symm)).trans h.val
 .rcases h.keys with e|⟨o,t,Z,e,g,i,u,p,v⟩
  .exact .inl e
  .refine .inr ⟨o,t,Z,e,g,i,u,(j o (by simp[QI.cM,e]) (fun w=>?_)).trans p,v⟩;have n:=h.eC;rw[<-w,p]at n;unfold BD sx at n;simp at n
variable {W c:World}{X f pt m g t:Nat}{w:Value}{a:List (Nat×Nat×Value)}{v:fB}{s:dE}{l:List fe}{n:List dS}
theorem QK (a b:List PS):mM (a++b)=mM a++mM b:=List.filterMap_append
theorem Mj (n:Nat):mM (List.replicate n .un)=[]:=by
 induction n with
 |zero=>rfl
 |succ n a=>rw[pI];unfold mM at a⊢;exact a
theorem Hz (a:List QS)(x:QS):jX (a++[x])=jX a++mM x.ps:=by
 unfold jX;simp
theorem rz (C:Nat)(v:QI)(a:List QI)(c:iO)(d:List PS)(n:Nat)(b:List QS)(h:a.length=b.length):jq C (a++[v]) (b++[⟨c,d++List.replicate n .un⟩])=jq C a b++rE C v.q 0 d:=by
 rw[Ic C v a _ b h,vw,NF,il]
theorem yj (a b:List (Nat×Nat×Value)):kq (a++b)=kq a++kq b:=dF
def mT (v:fB)(l:List fe):List Nat:=v.cM++jK l
theorem mY.below (h:mY W X f pt m g t w a v s l n)(hb:Below W.heap.size W c):mY c X f pt m g t w a v s l n:=by
 obtain⟨d,b,e⟩:=h.gb;exact⟨(hb.block X (cA h.eC)).trans h.eC,⟨d,(hb.block g (cA b)).trans b,e⟩,h.len,h.s1,h.s4,h.Re,h.yM,h.jV.below hb,h.ji.below hb,h.ap,h.mr,h.pv,h.NX⟩
theorem mY.KM {s':dE}{d:List fe}{i:List dS}(h:mY W X f pt m g t w a v s l n)(k:eH (mT v l) W c)(z:gL c m v s')(p:ke c d i)(A:dB W (jK l) (jK d))(B:∀(j:Nat) (u':fe),d[j]?=some u'->∃u,l[j]?=some u/\u'.S=u.S)(C:d.length=f)(q:∀(o:Nat) (u:fe),d[o]?=some u->PM o u.l (a++jq v.k.C v.qi s'.qs)):mY c X f pt m g t w a v s' d i:=by
 obtain⟨D,E,F,H⟩:=h.nX;obtain⟨I,J,K⟩:=h.gb;have x:∀b,b∉v.cM->b∉jK l->b∉mT v l:=fun b L M q=>by
  rcases cr.1 q with e|e
  .exact L e
  .exact M e
 refine⟨k.keep h.eC (x X D F),⟨I,k.keep J (x g E H),fun j u' N=>?_⟩,C,h.s1,h.s4,h.Re,h.yM,z,p,fun b y r=>?_,q,h.pv,h.NX⟩
 .obtain⟨u,O,P⟩:=B j u' N;rw[P];exact K j u O
 .rcases A b r with h3|h3
  .exact h.ap b y h3
  .have:=h.jV.old b y;omega
theorem Dw {a:Type}(l:List a)(x y:a):(l++[x]).set l.length y=l++[y]:=by simp
theorem Qf {a:Type}(l:List a)(x:a):(l++[x])[l.length]?=some x:=by simp
theorem Ii {d:Int}{st:St}{J:List UInt8}{k:List QS}{af:List QI}{K:QI}{c:iO}{y:List PS}{r:Nat}(h:mY W X f pt m g t w a v ⟨d,st,k++[⟨c,y++List.replicate (r+1) .un⟩],J⟩ l n)(S:v.qi=af++[K]){A:ByteArray}(H:c.keys[y.length]?=some A)(az:k.length<=1000)(ao:∀s∈n,s.je.length+1000<=100000000000):∃u,l[fE f pt A]?=some u/\Calls prog 132 #[.pointer (some ⟨u.S,0,none⟩),gS v.k.C K.q y.length] W fun e w'=>e= .returned (.tuple #[])/\∃ag,mY w' X f pt m g t w a v ⟨d,st,k++[⟨c,(qw f pt c.kind c.val (kq a++jX k) (n,y) A).2++List.replicate r .un⟩],J⟩ ag (qw f pt c.kind c.val (kq a++jX k) (n,y) A).1/\eH (mT v l) W w'/\dB W (mT v l) (mT v ag):=by
 have ho:=wu f pt A h.s1;obtain⟨u,s,hu,hs,F⟩:=h.ji.get (j:=fE f pt A) (by rw[h.len];exact ho);refine⟨u,hu,?_⟩;have M:af.length=k.length:=by have:=h.jV.qu.len;rw[S]at this;simpa using this
 have e0:y++List.replicate (r+1) PS.un=y++ .un::List.replicate r .un:=by rw[pI]
 have N:v.qi[k.length]?=some K:=by rw[S,<-M];exact Qf _ _
 have aa:(k++[(⟨c,y++List.replicate (r+1) .un⟩:QS)])[k.length]?=some ⟨c,y++List.replicate (r+1) .un⟩:=Qf _ _;have hQ:=h.jV.qu.qu _ _ _ N aa;have E:=h.jV.ok ⟨c,y++List.replicate (r+1) .un⟩ (by simp);simp only at E;rw[e0]at hQ E;have V:c.keys≠[]:=fun e=>by rw[e]at H;cases H
 have aA:c.keys.length<=4:=E.w.cm.k4;have ah:=E.len;simp at ah;have ap:=cu H;have aq:=E.w.cm.k8 A ap;have ar:kq (a++jq v.k.C v.qi (k++[(⟨c,y++List.replicate (r+1) .un⟩:QS)]))=kq a++jX k++mM y:=by
  rw[yj];have h1:kq (jq v.k.C v.qi (k++[(⟨c,y++List.replicate (r+1) .un⟩:QS)]))=jX (k++[(⟨c,y++List.replicate (r+1) .un⟩:QS)]):=wY _ _ _ h.jV.qu.len;rw[h1,Hz];simp only
  rw[QK,Mj,il,fx]
 have T:=h.mr _ u hu;simp only at T;have O:∀id,(∃p∈u.l,p.1=id)↔id∈iD (fE f pt A) (kq a++jX k++mM y):=fun id=>by
  rw[<-ar];exact T.ids id
 have ai:(iD (fE f pt A) (kq a++jX k++mM y)).length<65536:=by
  have a1:=Qc (fE f pt A) (kq a++jX k++mM y);have a2:(kq a).length<=100:=by unfold kq;rw[dp];exact h.NX
  have a3:=yL k 4 (fun x hx=>by
   have ab:=h.jV.ok x (by simp[hx]);simp only at ab;have:=ab.len;have:=ab.w.cm.k4;omega)
  have a4:=vu y;rw[cI,cI]at a1;omega
 obtain⟨f1,f2,f3⟩:=oL s.next _ ai;have au:∀p∈u.l,∃(C q:Nat) (i:Int),p.2=gS C q i:=fun p hp=>by
  rcases cr.1 (T.mem.1 hp)with h1|h1
  .obtain⟨C,q,i,e⟩:=h.pv _ h1;exact⟨C,q,i,e⟩
  .unfold jq at h1;obtain⟨z,hz,Y⟩:=iB.1 h1;obtain⟨j,_,e,_⟩:=yK _ _ _ _ _ Y;exact⟨_,_,_,e⟩
 unfold qw;simp only[hs]
 by_cases P:s.up=true
 .rw[cN P];simp only
  generalize aB:kX s.next (iD (fE f pt A) (kq a++jX k++mM y))=L at*;obtain⟨⟨iv,iu,hD,HH,hz⟩,av⟩:=F.DV;simp only[P,lz]at hD;rcases hQ.keys with⟨e,_⟩|⟨kb,kc,Z,e1,e2,e3,e4,hZ,e5⟩
  .exact absurd e V
  .have I:=hQ.eC;unfold BD nz at I;simp only at I;rw[e3]at I;refine(Fb u.S s.next u.m L v.k.C K.q kb c.keys.length kc y.length iv iu false false u.bp u.bv s.je u.l c.kind c.val c.word A c.fatal c.id _ _ _ _ _ W hD F.nx F.mp au (fun p hp e=>f2 ((O _).1 ⟨p,hp,e⟩)) (fun j hj=>(O _).2 (f3 j hj)) I (cq.1 H).1 e4 (by omega) ⟨Z,hZ⟩ ((cn hZ _).trans (e5 _ _ H)) (E.w.cm.right V) aq E.w.cm.v40 F.Bj F.row (by have:=ao s (cu hs);omega)).mono ?_;rintro e w' ⟨rfl,ac,h1,Y,h3,h4,h5⟩;refine⟨rfl,l.set (fE f pt A) {u with bp:= .pointer (some ⟨u.S,7,none⟩),bv:=ac,l:=u.l++[((s.next+L) % 65536,gS v.k.C K.q y.length)]},?_⟩
   obtain⟨n1,n2,n3,n4,n5⟩:=F.nS;have kf:eH u.cM W w':=h4.more (fun b B=>by simp[fe.cM]at B⊢;rcases B with e|e|e<;>simp[e]);have aj:∀b,u.hb=some b->b∉u.S::u.m::u.bv.ownBlock.toList:=fun b B hm=>by
    simp at hm;rcases hm with e|e|e
    .exact n2 (by rw[B,e])
    .exact n4 (by rw[B,e])
    .exact F.ab b e B
   have ak:∀b,u.hb=some b->b<W.heap.size:=fun b B=>F.old b (by simp[fe.cM,B])
   have al:kD w' {u with bp:= .pointer (some ⟨u.S,7,none⟩),bv:=ac,l:=u.l++[((s.next+L) % 65536,gS v.k.C K.q y.length)]} {s with next:=(s.next+L+1) % 65536,je:=s.je++(Py c.kind A c.val ((s.next+L) % 65536)).data.toList}:=by
    refine⟨⟨⟨iv,iu,?_,HH.other (fun b B=>h4.block b (ak b B) (aj b B)),hz⟩,av⟩,Y,.inr rfl,h3,Nat.mod_lt _ (by decide),fun b B ad=>?_⟩
    .simp only[P,lz]
     exact h1
    .simp only at B ad;rcases h5 with e|⟨g',e,hg⟩
     .exact F.ab b (by rw[<-e];exact B) ad
     .rw[e]at B;cases B;have:=ak _ ad;omega
   have aw:dB W u.cM (fe.cM {u with bp:= .pointer (some ⟨u.S,7,none⟩),bv:=ac,l:=u.l++[((s.next+L) % 65536,gS v.k.C K.q y.length)]}):=fun b B=>by
    unfold fe.cM at B⊢;simp at B⊢;rcases B with e|e|e|e
    .simp[e]
    .simp[e]
    .simp[e]
    .rcases h5 with e2|⟨g',e2,hg⟩
     .rw[e2]at e;simp[e]
     .rw[e2]at e;cases e;exact .inr hg
   obtain⟨r1,r2⟩:=h.ji.step hu kf al aw;have Q:gL w' m v ⟨d,st,k++[⟨c,y++[.op (fE f pt A) ((s.next+L) % 65536)]++List.replicate r .un⟩],J⟩:=by
    have kk:∀b∈v.cM,w'.heap[b]?=W.heap[b]?:=fun b B=>kf.block b (h.jV.old b B) (fun hm=>h.ap b B (gJ.2 ⟨_,u,hu,hm⟩))
    have:=h.jV.NJ (c:=⟨c,y++ .op (fE f pt A) ((s.next+L) % 65536)::List.replicate r .un⟩) N aa (fun b B _=>kk b B) ((hQ.keep (fun b B=>kk b (cr.2 (.inr (jy.2 ⟨K,cu N,B⟩))))).Ph _ _) rfl (E.part (p':= .op (fE f pt A) ((s.next+L) % 65536)) Qa);rw[Dw]at this;simpa using this
   have R:eH (mT v l) W w':=kf.more (fun b B=>cr.2 (.inr (gJ.2 ⟨_,u,hu,B⟩)));refine⟨h.KM R Q r1 r2 (fun j U D=>?_) (by rw[dj];exact h.len) (fun o U D=>?_),R,(dB.refl W (mT v l)).app (PC _) (dB.refl _ _) r2⟩
   .rw[dD]at D;split at D
    .rename_i eo;subst eo;split at D
     .cases D;exact⟨u,hu,rfl⟩
     .cases D
    .exact⟨U,D,rfl⟩
   .have ae:jq v.k.C v.qi (k++[(⟨c,y++[.op (fE f pt A) ((s.next+L) % 65536)]++List.replicate r .un⟩:QS)])=jq v.k.C v.qi (k++[(⟨c,y++List.replicate (r+1) .un⟩:QS)])++[(fE f pt A,(s.next+L) % 65536,gS v.k.C K.q y.length)]:=by
     rw[S,rz _ _ _ _ _ _ _ M,rz _ _ _ _ _ _ _ M,vw,fx];simp[rE]
    show PM o U.l (a++jq v.k.C v.qi (k++[(⟨c,y++[.op (fE f pt A) ((s.next+L) % 65536)]++List.replicate r .un⟩:QS)]));rw[ae,<-fx];rw[dD]at D;split at D
    .rename_i eo;subst eo;split at D
     .cases D;exact T.snoc _ _ (fun p hp e=>f2 ((O _).1 ⟨p,hp,e⟩))
     .cases D
    .rename_i eo;exact(h.mr o U D).OT _ _ eo
 .rw[cD P];simp only
  have am:s.up=false:=by simpa using P
  obtain⟨iv,iu,ip,ic,hD⟩:=F.eC;rw[am]at hD;obtain⟨en,_⟩:=Sg K c y (List.replicate r .un);have I:=hQ.eC;unfold BD at I;have ax:(nz K ⟨c,y++ .un::List.replicate r .un⟩).n=QS.n ⟨c,y++ .fl::List.replicate r .un⟩+1:=en;rw[ax]at I;have ay:QS.n ⟨c,y++ .fl::List.replicate r .un⟩<=1000:=by
   have:QS.n ⟨c,y++ .fl::List.replicate r .un⟩<=(y++PS.fl::List.replicate r PS.un).length:=oC;simp at this;omega
  refine(BX u.S s.next u.m v.k.C K.q y.length iv iu ip ic u.bp u.bv _ _ _ _ _ _ _ _ _ _ _ W hD I ay).mono ?_;rintro e w' ⟨rfl,h1,Y⟩;refine⟨rfl,l,?_⟩;have an:K.q∈v.cM:=cr.2 (.inr (jy.2 ⟨K,cu N,by simp[QI.cM]⟩));have Q:gL w' m v ⟨d,st,k++[⟨c,y++[.fl]++List.replicate r .un⟩],J⟩:=by
   have:=h.jV.NJ (c:=⟨c,y++ .fl::List.replicate r .un⟩) N aa (fun b B hn=>Y.block b (h.jV.old b B) (by simp;intro e;exact hn (by rw[e];simp[QI.cM]))) (hQ.Pg Y h1) rfl (E.part (p':= .fl) Qa);rw[Dw]at this;simpa using this
  have R:eH (mT v l) W w':=Y.more (fun b B=>by simp at B;rw[B];exact cr.2 (.inl an));refine⟨h.KM R Q (h.ji.keep (fun b B=>Y.block b (h.ji.old b B) (by simp;intro e;exact h.ap _ an (by rw[<-e];exact B)))) (dB.refl _ _) (fun j U D=>⟨U,D,rfl⟩) h.len (fun o U D=>?_),R,dB.refl _ _⟩;have ae:jq v.k.C v.qi (k++[(⟨c,y++[.fl]++List.replicate r .un⟩:QS)])=jq v.k.C v.qi (k++[(⟨c,y++List.replicate (r+1) .un⟩:QS)]):=by
   rw[S,rz _ _ _ _ _ _ _ M,rz _ _ _ _ _ _ _ M,vw];simp[rE]
  show PM o U.l (a++jq v.k.C v.qi (k++[(⟨c,y++[.fl]++List.replicate r .un⟩:QS)]));rw[ae];exact h.mr o U D
theorem Ny {w:World}{X m pt A g sc:Nat}{cv:Value}{k:List (Nat×Nat×Value)}{v:fB}{d:Int}{st:St}{n:List UInt8}{a:List QS}{aa:List QI}{y:QI}{c:iO}{J:List fe}{z:List dS}(h:mY w X m pt A g sc cv k v ⟨d,st,a++[⟨c,List.replicate c.keys.length .un⟩],n⟩ J z)(F:v.qi=aa++[y])(ab:a.length<=1000)(ac:∀s∈z,s.je.length+5000<=100000000000):Calls prog 91 #[.pointer (some ⟨X,0,none⟩),.pointer (some ⟨v.k.C,0,none⟩),.pointer (some ⟨y.q,0,none⟩)] w fun e w'=>e= .returned (.tuple #[])/\∃l,mY w' X m pt A g sc cv k v ⟨d,st,a++[⟨c,(fK m pt c.kind c.val (kq k++jX a) z c.keys).2⟩],n⟩ l (fK m pt c.kind c.val (kq k++jX a) z c.keys).1/\eH (mT v J) w w'/\dB w (mT v J) (mT v l):=by
 have K:aa.length=a.length:=by have:=h.jV.qu.len;rw[F]at this;simpa using this
 have ad:v.qi[a.length]?=some y:=by rw[F,<-K];exact Qf _ _
 have ae:Hid (∀(wr:World) (ps:List PS) (l:List fe) (af:List dS),mY wr X m pt A g sc cv k v ⟨d,st,a++[⟨c,ps⟩],n⟩ l af->kN wr y ⟨c,ps⟩):=fun wr ps l af hr=>hr.jV.qu.qu _ _ _ ad (Qf _ _)
 have hQ:=ae.out _ _ _ _ h;have p:=h.jV.ok ⟨c,List.replicate c.keys.length .un⟩ (by simp);simp only at p;have ap:c.keys.length<=4:=p.w.cm.k4;have r:=hQ.eC;unfold BD at r;by_cases hk:c.keys=[]
 .rcases hQ.keys with⟨_,_,ka,B,e⟩|⟨b,B,Z,_,_,e,_⟩
  .rw[show(nz y ⟨c,List.replicate c.keys.length .un⟩).kv=y.kv from rfl,e]at r;refine(Av X v.k.C y.q (.slice ka 0 B) ka B _ _ _ _ _ _ _ _ _ _ w r).mono ?_;rintro e w' ⟨rfl,rfl⟩;refine⟨rfl,J,?_,eH.refl _ _,dB.refl _ _⟩;rw[hk]at h⊢;exact h
  .simp only[hk,fk]at e;rw[show(nz y ⟨c,List.replicate c.keys.length .un⟩).kv=y.kv from rfl,e]at r;refine(Av X v.k.C y.q (.slice none 0 0) _ B _ _ _ _ _ _ _ _ _ _ w r).mono ?_;rintro e w' ⟨rfl,rfl⟩;refine⟨rfl,J,?_,eH.refl _ _,dB.refl _ _⟩;rw[hk]at h⊢;exact h
 obtain⟨kb,B,P,aq⟩:∃kb B,y.kv= .slice (some ⟨kb,0,none⟩) c.keys.length B/\c.keys.length<=B:=by
  rcases hQ.keys with⟨e,_⟩|⟨b,B,Z,_,_,e,e4,_⟩
  .exact absurd e hk
  .exact⟨b,B,e,e4⟩
 have ar:Hid (∀(wr:World) (ps:List PS),kN wr y ⟨c,ps⟩->kb<wr.heap.size/\∀(i:Nat) (f:ByteArray),c.keys[i]?=some f->wr.cell? ⟨kb,i,none⟩=some (.string f)):=fun wr ps hr=>by
  rcases hr.keys with⟨e,_⟩|⟨b,aE,Z,_,_,e,_,hZ,e5⟩
  .exact absurd e hk
  .rw[P]at e;cases e;exact⟨cA hZ,fun i f hi=>(cn hZ i).trans (e5 i f hi)⟩
 have q1:w.cell? ⟨y.q,1,none⟩=some (.slice (some ⟨kb,0,none⟩) c.keys.length B):=(cn r 1).trans (by show some y.kv=_;rw[P]);have au:=cA r;have av:=h.s1;have aw:=h.s4;have aF:=h.Re;have ax:=h.yM;have Q:=p.w.cm.k8;have L:=p.w.cm.v40;have H:=cb (cd h (cd F (cd ab (cd ac (cd Q L)))));obtain⟨D,R⟩:∃D,c.keys.length=D:=⟨_,rfl⟩
 have E:=cb R;rw[R]at q1 aq ap;obtain⟨q,hq⟩:∃q,y.q=q:=⟨_,rfl⟩
 obtain⟨C,hC⟩:∃C,v.k.C=C:=⟨_,rfl⟩
 have ag:=cb (cd hq hC);rw[hq]at q1 au⊢;rw[hC];clear h F ab ac Q L p r hQ ad P R hq hC K hk;go_enter func91,ntmps91;go_wp2_with fail
 go_loopw [15] (fun i wr=>∃(j:Nat) (l:List fe),j<=D/\i= .int .i64 (j:Int)/\Hid (mY wr X m pt A g sc cv k v ⟨d,st,a++[⟨c,(fK m pt c.kind c.val (kq k++jX a) z (c.keys.take j)).2++List.replicate (D-j) .un⟩],n⟩ l (fK m pt c.kind c.val (kq k++jX a) z (c.keys.take j)).1/\eH (mT v J) w wr/\dB w (mT v J) (mT v l))) (fun i _=>D-(intOf i).toNat)
 case atStart=>exact⟨0,J,cG _,rfl,by rw[Nat.sub_zero,<-E.out];exact H.out.1,eH.refl _ _,dB.refl _ _⟩
 case round=>
  obtain⟨j,l,hj,rfl,HJ⟩:=hrel;by_cases ay:j<D
  .have aD:(j:Int)<(D:Int):=by omega
   have ah:=ae.out _ _ _ _ HJ.out.1;obtain⟨lk,ai⟩:=ar.out _ _ ah;obtain⟨f,t⟩:∃f,c.keys[j]?=some f:=⟨_,cp (by rw[E.out];exact ay)⟩
   have ck:=ai j f t;have Q:=H.out.2.2.2.2.1 f (cu t);have ho:=wu m pt f av;have S:(fK m pt c.kind c.val (kq k++jX a) z (c.keys.take j)).2.length=j:=by
    rw[(qy m pt c.kind c.val (kq k++jX a) z (c.keys.take j)).2,fh,E.out];omega
   have er:D-j=(D-(j+1))+1:=by omega
   have M:∀s∈(fK m pt c.kind c.val (kq k++jX a) z (c.keys.take j)).1,s.je.length+1000<=100000000000:=fun s hs=>by
    have:=(wB m pt c.kind c.val H.out.2.2.2.2.2 (kq k++jX a) z (100000000000-5000) (fun u N=>by
     obtain⟨i,hi,e⟩:=dG.1 N;obtain⟨v',s',e1,e2,e3⟩:=H.out.1.ji.get (j:=i) (by rw[H.out.1.ji.len];exact hi);rw[cp hi,e]at e2;cases e2;have:=H.out.2.2.2.1 u N;exact⟨e3.nx,by omega⟩) (c.keys.take j) (fun x hx=>H.out.2.2.2.2.1 x (fH hx)) s hs).2
    rw[fh,E.out]at this;omega
   have T:∀nq:Nat,∃u,l[fE m pt f]?=some u/\Calls prog 132 #[.pointer (some ⟨u.S,0,none⟩),gS C q j] (wr.drewN nq) fun e w'=>e= .returned (.tuple #[])/\∃I,mY w' X m pt A g sc cv k v ⟨d,st,a++[⟨c,(fK m pt c.kind c.val (kq k++jX a) z (c.keys.take (j+1))).2++List.replicate (D-(j+1)) .un⟩],n⟩ I (fK m pt c.kind c.val (kq k++jX a) z (c.keys.take (j+1))).1/\eH (mT v l) (wr.drewN nq) w'/\dB (wr.drewN nq) (mT v l) (mT v I):=fun nq=>by
    have hr:=HJ.out.1.below (cV (ct _ _) nq);rw[er]at hr;obtain⟨u,N,hc⟩:=Ii hr H.out.2.1 (A:=f) (by rw[S];exact t) H.out.2.2.1 M;refine⟨u,N,?_⟩;have ek:c.keys.take (j+1)=c.keys.take j++[f]:=by rw[eV,t];rfl
    rw[S,ag.out.1,ag.out.2]at hc;rw[ek,qO];exact hc
   obtain⟨u,N,_⟩:=T 0;obtain⟨Zg,aj,ak⟩:=HJ.out.1.gb;have cg:wr.cell? ⟨g,fE m pt f,none⟩=some (.pointer (some ⟨u.S,0,none⟩)):=(cn aj _).trans (ak _ u N);have az:Hid (∀W,Calls prog 51 #[.int .i64 (m:Int),.int .i64 (pt:Int),.string f] W fun e w'=>e= .returned (.int .i64 ((fE m pt f:Nat):Int))/\w'=W):=fun W=>yY m pt f W aw ax (by unfold maxLen;omega)
   obtain⟨x0,x1,_,_,x4,_⟩:=PG HJ.out.1.eC;have al:=cb (cd T N);generalize aA:fE m pt f=o at*;clear aj ak ai ah t T aA M S er N;go_wp2_with fail
   go_quiet ((go_at_call 51;exact Calls.quiet_of_same (az.out _)))
   go_wp2_with fail
   obtain⟨u2,U,V⟩:=al.out.1 nq;have am:u2=u:=by rw[al.out.2]at U;cases U;rfl
   rw[am]at V;have Y:=cb V;clear V U am;unfold gS at Y;go_at_call 132;refine Y.out.mono ?_;rintro e w3 ⟨rfl,I,h1,O,h3⟩;have H3:=cb (cd h1 (cd O h3));clear h1 O h3 Y;go_wp2;go_roundw;case rel=>
    obtain⟨h1,O,h3⟩:=H3.out;obtain⟨_,an,ao⟩:=HJ.out;have aB:eH (mT v l) wr w3:=⟨O.os,O.tape,O.output,O.size,O.block⟩
    exact⟨j+1,I,by omega,by go_num,h1,an.trans aB ao,ao.trans h3 an.size⟩
   case measure=>simp[intOf];omega
  .have aC:j=D:=by omega
   subst aC;go_wp2;go_end0;have h:=HJ.out;rw[<-E.out,gd,rI]at h;simp only[List.replicate_zero,il]at h;exact⟨rfl,l,h⟩
variable {d:Int}{c:iO}{a W:World}{f X p pt g o:Nat}{v:fB}{s:dE}{r:Value}{i:List (Nat×Nat×Value)}{j:List fe}{l:List dS}
theorem Hj (h:OL d c)(e:c.keys≠[]):∀x∈c.keys,1<=x.size:=by
 have b:∀m:Int,gR c.keys m=true->∀x∈c.keys,1<=x.size:=fun m a x f=>by
  unfold gR at a;rw[cO,jN]at a;exact(yp (a.2 x f)).1
 rcases h.ok.NG with⟨a,_⟩|⟨_,a,_⟩
 .unfold fp at a;split at a
  .rw[cO]at a;exact b _ a.1
  .split at a
   .rw[cO]at a;exact b _ a.1
   .split at a
    .rw[cO]at a;exact b _ a.1
    .cases a
 .exact absurd a e
theorem kN.new {u q:Nat}(h:Lk u a q c)(B:OL d c):∃s:QI,s.q=q/\kN a s ⟨c,List.replicate c.keys.length .un⟩/\∀b∈s.cM,u<=b:=by
 obtain⟨v,C,j,o,p,M,N,w,D,O,E⟩:=h.at_;have t:c.keys.length=C:=by rcases w with⟨e,h⟩|⟨b,F,e,_⟩<;>(cases e;first|(rw[h];rfl)|rfl)
 subst t;have P:qX (List.replicate c.keys.length PS.un)=Array.replicate c.keys.length (.bool false):=by
  unfold qX;simp[PS.yes]
 have Q:rB (List.replicate c.keys.length PS.un)=Array.replicate c.keys.length (.string ⟨#[]⟩):=by
  unfold rB;simp[PS.val]
 have H:QS.n ⟨c,List.replicate c.keys.length .un⟩=c.keys.length:=by unfold QS.n;simp[List.countP_replicate,PS.opn]
 have I:QS.fa ⟨c,List.replicate c.keys.length .un⟩=false:=by unfold QS.fa;simp[PS.bad]
 have J:QS.re ⟨c,List.replicate c.keys.length .un⟩=false:=by unfold QS.re;simp[PS.ref]
 have i:∀x,a.heap[q]?=some (BD (nz ⟨q,o,p,x,.slice v c.keys.length j⟩ ⟨c,List.replicate c.keys.length .un⟩)):=fun x=>by
  unfold BD nz;simp only[H,I,J,lH]
  exact D
 rcases w with⟨e,y⟩|⟨b,F,e,f,Z,r,K,l,z⟩
 .obtain⟨rfl,_,rfl⟩:v=none/\c.keys.length=0/\j=0:=by grind
  refine⟨⟨q,o,p,none,.slice none c.keys.length 0⟩,rfl,⟨i none,by grind,by simp_all,.inl ⟨y,rfl,none,0,by simp[y]⟩⟩,fun b f=>?_⟩;simp[QI.cM]at f;have:=h.ge;rcases f with e|e|e<;>omega
 .cases e;by_cases g:c.keys=[]
  .refine⟨⟨q,o,p,none,.slice (some ⟨b,0,none⟩) c.keys.length j⟩,rfl,⟨i none,by simp_all,by simp_all,.inl ⟨g,rfl,some ⟨b,0,none⟩,j,by simp[g]⟩⟩,fun b f=>?_⟩;simp[QI.cM]at f;have:=h.ge;rcases f with e|e|e<;>omega
  .refine⟨⟨q,o,p,some b,.slice (some ⟨b,0,none⟩) c.keys.length j⟩,rfl,⟨i _,by grind,by simp_all,.inr ⟨b,j,Z,rfl,fun e=>?_,rfl,l,r,z⟩⟩,fun b f=>?_⟩
   .rw[e,E]at r;obtain⟨m,n⟩:∃m,c.keys[0]?=some m:=⟨_,cp (pH.2 g)⟩
    have k:=z 0 m n;simp at r;rw[<-r]at k;have A:=Hj B g m (cu n);have L:m=⟨#[]⟩:=by
     rw[Array.getElem?_replicate]at k;split at k
     .simp at k;exact k.symm
     .cases k
    rw[L]at A;exact absurd A (by decide)
   .simp[QI.cM]at f;have:=h.ge;rcases f with e|e|e|e<;>omega
theorem gL.next (h:gL W f v s)(x:iC)(n:fw s.d s.st.held=some x)(q:Nat)(c:gU)(d:gM a f c ⟨s.d,fm s.st x,s.qs.map (·.c)++[x.c],s.told⟩)(j:c.qs=v.k.qs++[q])(o:Lk W.heap.size a q x.c)(k:eH v.k.cM W a)(r:dB W v.k.cM c.cM):∃g:QI,g.q=q/\gL a f ⟨c,v.qi++[g]⟩ ⟨s.d,fm s.st x,s.qs++[⟨x.c,List.replicate x.c.keys.length .un⟩],s.told⟩/\eH v.cM W a/\dB W v.cM (fB.cM ⟨c,v.qi++[g]⟩):=by
 have l:=yP n;obtain⟨g,e,t,m⟩:=kN.new o l;have i:=h.qu.keep (fun b hb=>k.block b (h.qu.old b hb) (h.ap b hb));refine⟨g,e,⟨?_,?_,i.snoc t (fun b hb u=>?_),fun y w=>?_⟩,k.more (fun b hb=>cr.2 (.inl hb)),fun b hb=>?_⟩
 .have:(s.qs++[(⟨x.c,List.replicate x.c.keys.length .un⟩:QS)]).map (·.c)=s.qs.map (·.c)++[x.c]:=by simp
  show gM a f c ⟨s.d,fm s.st x,(s.qs++[(⟨x.c,List.replicate x.c.keys.length .un⟩:QS)]).map (·.c),s.told⟩;rw[this];exact d
 .rw[j,h.qk,dF];simp[e]
 .have h1:=m b hb;have A:=h.qu.old b u;omega
 .rcases cr.1 w with h1|h1
  .exact h.ok y h1
  .simp at h1;rw[h1];exact⟨l,by simp,fun p z=>by rw[kz z];trivial⟩
 .rcases cr.1 hb with hb|hb
  .rcases r b hb with h1|h1
   .exact .inl (cr.2 (.inl h1))
   .exact .inr h1
  .rw[Aj,Ak]at hb;rcases cr.1 hb with hb|hb
   .exact .inl (cr.2 (.inr hb))
   .exact .inr (m b hb)
theorem Kt (C q:Nat):∀(a:List PS) (i:Nat),a.countP PS.opn=0->rE C q i a=[]:=by
 intro a;induction a with
 |nil=>intro i _;rfl
 |cons p a b=>
  intro i h;cases p using PS.el with
  |op o id=>simp[PS.opn]at h
  |un=>simp[PS.opn]at h
  |an c v=>exact b (i+1) (by simp_all)
  |fl=>exact b (i+1) (by grind)
theorem Ft (d:Int):∀(b:List QS) (a:List UInt8),∃m,m<=b.length/\(iE d b a).1=b.drop m/\∀x∈b.take m,x.n=0:=by
 intro b;induction b with
 |nil=>intro a;exact⟨0,PC _,rfl,fun x c=>by cases c⟩
 |cons x b g=>
  intro a;unfold iE;by_cases c:x.n=0
  .rw[cN c];obtain⟨m,j,h,i⟩:=g (a++(kS d x).data.toList);refine⟨m+1,by simp;omega,h,fun y f=>?_⟩;rcases cQ.1 f with e|e
   .rw[e];exact c
   .exact i y e
  .rw[cD c];exact⟨0,cG _,rfl,fun y f=>by cases f⟩
theorem Ib (C:Nat):∀(m:Nat) (b:List QI) (a:List QS),(∀x∈a.take m,x.n=0)->jq C (b.drop m) (a.drop m)=jq C b a:=by
 intro m;induction m with
 |zero=>intro b a _;rfl
 |succ m c=>
  intro b a h;cases b with
  |nil=>unfold jq;simp
  |cons v b=>
   cases a with
   |nil=>unfold jq;simp
   |cons x a=>
    rw[tQ,iN,iN,c b a (fun y d=>h y (by simp_all)),Kt _ _ _ _ (h x (by grind)),fI]
theorem GL {c d:Type}(a:List c)(b:List d)(e:a.length=b.length)(n m:Nat)(h:b.drop n=b.drop m):a.drop n=a.drop m:=by simp_all
def hU (s:dE):dE:={s with qs:=(iE s.d s.qs s.told).1,told:=(iE s.d s.qs s.told).2}
theorem Qo (h:mY W X p pt f g o r i v s j l)(d:s.told.length+1000*s.qs.length<=100000000000)(b:s.qs.length<=1000):Calls prog 89 #[.pointer (some ⟨v.k.C,0,none⟩)] W fun e w'=>e= .returned (.tuple #[])/\∃v',mY w' X p pt f g o r i v' (hU s) j l/\v'.k.C=v.k.C/\v'.k.R=v.k.R/\eH v.cM W w'/\dB W v.cM v'.cM:=by
 have u:Calls prog 89 #[.pointer (some ⟨v.k.C,0,none⟩)] W fun e w'=>e= .returned (.tuple #[])/\∃v',gL w' f v' {s with qs:=(iE s.d s.qs s.told).1,told:=(iE s.d s.qs s.told).2}/\v'.k.C=v.k.C/\v'.k.R=v.k.R/\eH v.cM W w'/\dB W v.cM v'.cM/\∃n,v'.qi=v.qi.drop n/\(iE s.d s.qs s.told).1=s.qs.drop n:=by
  rcases h.jV.uz.di with⟨c,a⟩|⟨c,a⟩|⟨c,a⟩
  .exact JC f v s W h.jV a c d b
  .exact JD f v s W h.jV a c d b
  .exact JE f v s W h.jV a c d b
 refine u.mono ?_;rintro e w' ⟨rfl,v',c,a,w,k,q,n,x,y⟩;refine⟨rfl,v',h.Qe k q c ?_,a,w,k,q⟩;obtain⟨m,A,t,z⟩:=Ft s.d s.qs s.told;show jq v'.k.C v'.qi (iE s.d s.qs s.told).1=_;rw[a,x,GL v.qi s.qs h.jV.qu.len n m (y.symm.trans t),t];exact Ib _ _ _ _ z
def Je (W w':World)(X p pt f g o:Nat)(r:Value)(i:List (Nat×Nat×Value))(v:fB)(s:dE)(j:List fe)(l:List dS)(e:Ending):Prop:=
 ((¬s.qs.length<f\/fw s.d s.st.held=none)/\e= .returned (.tuple #[.pointer none,.bool false])/\mY w' X p pt f g o r i v s j l/\eH v.cM W w')\/
 ∃(x:iC) (b:QI) (a:fB),fw s.d s.st.held=some x/\s.qs.length<f/\e= .returned (.tuple #[.pointer (some ⟨b.q,0,none⟩),.bool true])/\mY w' X p pt f g o r i a ⟨s.d,fm s.st x,s.qs++[⟨x.c,List.replicate x.c.keys.length .un⟩],s.told⟩ j l/\a.qi=v.qi++[b]/\a.k.C=v.k.C/\a.k.R=v.k.R/\eH v.cM W w'/\dB W v.cM a.cM
theorem Hv (h:mY W X p pt f g o r i v s j l)(H:s.st.held.length<=140737488355328)(O:s.qs.length<=1000000):Calls prog 90 #[.pointer (some ⟨v.k.C,0,none⟩)] W fun e w'=>Je W w' X p pt f g o r i v s j l e:=by
 obtain⟨d,a,b,t,z,P⟩:=h.jV.uz.chan;have c3:d.size=s.qs.length:=by rw[P];show(s.qs.map (·.c)).length=_;rw[dp]
 by_cases u:s.qs.length<f
 .cases n:fw s.d s.st.held with
  |none=>
   refine(Hu v.k.C v.k.R v.k.ch f a b v.k.t s.d v.k.hb s.st d t v.k.wv v.k.bp v.k.bv W h.jV.uz.eC z (by omega) h.jV.uz.di h.jV.uz.rd H n).mono ?_;rintro e w' ⟨rfl,k,c,A,B,C,y⟩;have Q:eH v.k.cM W w':=k.more (fun x I=>by simp at I;rw[I];simp[gU.cM]);obtain⟨D,J,E⟩:=h.jV.JI Q (h.jV.uz.Sk k c A B t (by omega) y) rfl (dB.refl _ _);exact .inl ⟨.inr n,rfl,h.Qe J E D rfl,J⟩
  |some x=>
   have R:=uF n;have m:=h.jV.uz.row;have w:s.k.waits.length=s.qs.length:=by omega
   rw[w]at m;refine(Hw v.k.C v.k.R v.k.ch f a b v.k.t s.qs.length s.d v.k.hb s.st x (v.k.qs.map dC) d t v.k.wv v.k.bp v.k.bv W h.jV.uz.eC z (by omega) h.jV.uz.di h.jV.uz.rd H n m O (by have:=R.k4;omega)).mono ?_;rintro e w' ⟨q,S,T,c,A,B,F,rfl,C,y,U,h4,V,Y,Z,K,h9⟩;rw[<-w]at C y;obtain⟨D,E,a4⟩:=h.jV.uz.next x n q S T c A B t F C y U (by omega) V Y Z K h9;obtain⟨L,e1,e2,M,N⟩:=h.jV.next x n q _ D rfl K E a4;refine .inr ⟨x,L,_,n,u,by rw[e1],h.Qe M N e2 ?_,rfl,rfl,rfl,M,N⟩;have:=rz v.k.C L v.qi x.c [] x.c.keys.length s.qs h.jV.qu.len;simpa [rE]using this
 .refine(Ht v.k.C v.k.R v.k.ch f a b d t v.k.wv v.k.bp v.k.bv W h.jV.uz.eC z (by omega)).mono ?_;rintro e w' ⟨rfl,rfl⟩;exact .inl ⟨.inl u,rfl,h,eH.refl _ _⟩
variable {j pt a T E X g l:Nat}{b:List (Nat×Nat)}{s:dE}{i:List dS}{x:iC}{m:Value}{f:List (Nat×Nat×Value)}{v:fB}{k:List fe}
def sU (j pt:Nat)(b:List (Nat×Nat))(s:dE)(i:List dS)(x:iC):dE×List dS:=
 (⟨s.d,fm s.st x,s.qs++[⟨x.c,(fK j pt x.c.kind x.c.val (b++jX s.qs) i x.c.keys).2⟩],s.told⟩,(fK j pt x.c.kind x.c.val (b++jX s.qs) i x.c.keys).1)
def uu (j pt a:Nat)(b:List (Nat×Nat)):Nat->dE->List dS->dE×List dS
 |0,s,i=>(s,i)
 |f+1,s,i=>if s.qs.length<a then
  match fw s.d s.st.held with
  |none=>(s,i)
  |some x=>uu j pt a b f (hU (sU j pt b s i x).1) (sU j pt b s i x).2
  else(s,i)
def lZ (j pt a:Nat)(b:List (Nat×Nat))(s:dE)(i:List dS):dE×List dS:=uu j pt a b s.st.held.length s i
theorem Fc (j pt a:Nat)(b:List (Nat×Nat)):∀(f:Nat) (s:dE) (i:List dS) (g:Nat),s.st.held.length<=f->f<=g->uu j pt a b g s i=uu j pt a b f s i:=by
 intro f;induction f with
 |zero=>
  intro s i g h _;have c:s.st.held=[]:=dw.1 (by omega);cases g with
  |zero=>rfl
  |succ g=>
   unfold uu;rw[c,nO];simp
 |succ f d=>
  intro s i g h l;obtain⟨g,rfl⟩:∃k,g=k+1:=⟨g-1,by omega⟩
  unfold uu;split
  .cases e:fw s.d s.st.held with
   |none=>rfl
   |some x=>
    have m:=jc e;exact d _ _ g (by show(fm s.st x).held.length<=f;omega) (by omega)
  .rfl
theorem zc (h:¬s.qs.length<a\/fw s.d s.st.held=none):lZ j pt a b s i=(s,i):=by
 unfold lZ;cases s.st.held.length with
 |zero=>rfl
 |succ f=>
  unfold uu;rcases h with h|h
  .rw[cD h]
  .rw[h];simp
theorem zb (c:s.qs.length<a)(h:fw s.d s.st.held=some x):lZ j pt a b s i=lZ j pt a b (hU (sU j pt b s i x).1) (sU j pt b s i x).2:=by
 have e:=jc h;obtain⟨f,d⟩:∃f,s.st.held.length=f+1:=⟨s.st.held.length-1,by omega⟩
 unfold lZ;rw[d];conv=>lhs;unfold uu;rw[cN c,h]
 exact Fc j pt a b _ _ _ f (PC _) (by show(fm s.st x).held.length<=f;omega)
structure xH (win T E:Nat)(s:dE)(ss:List dS):Prop where
 told:s.told.length+1000*(s.qs.length+s.st.held.length)<=T
 wl:s.qs.length<=win
 ji:∀u∈ss,u.next<65536/\u.je.length+4000*s.st.held.length+E<=T
theorem KY (d:Int)(b:d=1\/d=2\/d=3):∀(l:List QS) (a:List UInt8),(∀c∈l,oJ d c)->(iE d l a).2.length+1000*(iE d l a).1.length<=a.length+1000*l.length/\(iE d l a).1.length<=l.length:=by
 intro l;induction l with
 |nil=>intro a _;exact⟨PC _,PC _⟩
 |cons x l e=>
  intro a h;unfold iE;split
  .have f:=e (a++(kS d x).data.toList) (fun c g=>h c (by simp[g]));have i:=si b (h x (by simp));rw[cI]at f;have j:(kS d x).data.toList.length<=1000:=by simp_all
   simp only[dc]
   omega
  .exact⟨PC _,PC _⟩
theorem xH.tell (h:xH a T E s i)(d:s.d=1\/s.d=2\/s.d=3)(b:∀c∈s.qs,oJ s.d c):xH a T E (hU s) i:=by
 obtain⟨e,f⟩:=KY s.d d s.qs s.told b;have g:=h.told;have j:=h.wl;refine⟨?_,?_,h.ji⟩
 .show(iE s.d s.qs s.told).2.length+1000*((iE s.d s.qs s.told).1.length+s.st.held.length)<=T;omega
 .show(iE s.d s.qs s.told).1.length<=a;omega
theorem xH.got (h:xH a T E s i)(m:s.qs.length<a)(f:fw s.d s.st.held=some x)(j pt:Nat)(b:List (Nat×Nat)):xH a T E (sU j pt b s i x).1 (sU j pt b s i x).2:=by
 have d:=uF f;have n:=jc f;have o:=h.told;have p:=d.k4;refine⟨?_,?_,fun u e=>?_⟩
 .show s.told.length+1000*((s.qs++[_]).length+(fm s.st x).held.length)<=T;rw[cI,fu];omega
 .show(s.qs++[_]).length<=a;rw[cI,fu];omega
 .show _/\u.je.length+4000*(fm s.st x).held.length+E<=T;have q:=wB j pt x.c.kind x.c.val d.v40 (b++jX s.qs) i (T-E-4000*s.st.held.length) (fun z g=>by
   have:=h.ji z g;exact⟨this.1,by omega⟩) x.c.keys d.k8 u e
  have c:=(qy j pt x.c.kind x.c.val (b++jX s.qs) i x.c.keys).1;cases i with
  |nil=>
   have k:(sU j pt b s [] x).2=[]:=dw.1 c;rw[k]at e;cases e
  |cons l r=>
   have t:=h.ji l (by simp);omega
theorem Bq {d:Int}{t:Nat}(h:dT d t):d=1\/d=2\/d=3:=by
 rcases h with⟨h,_⟩|⟨h,_⟩|⟨h,_⟩<;>simp[h]
def OR (W:World)(X j pt a g l:Nat)(m:Value)(f:List (Nat×Nat×Value))(C R T E:Nat)(M:List Nat)(p:World)(h:dE×List dS)(q r:Value):Prop:=
 ∃(v:fB) (s:dE) (k:List fe) (i:List dS),v.k.C=C/\v.k.R=R/\mY W X j pt a g l m f v s k i/\eH M p W/\dB p M (mT v k)/\
  ((q= .pointer none/\r= .bool false/\xH a T E s i/\(s,i)=h)\/
   ∃(d:Int) (n:St) (b:List QS) (c:iO) (e:List UInt8) (o:List QI) (t:QI),s=⟨d,n,b++[⟨c,List.replicate c.keys.length .un⟩],e⟩/\v.qi=o++[t]/\q= .pointer (some ⟨t.q,0,none⟩)/\r= .bool true/\b.length<=1000/\(∀u∈i,u.je.length+5000<=100000000000)/\xH a T E ⟨d,n,b++[⟨c,(fK j pt c.kind c.val (kq f++jX b) i c.keys).2⟩],e⟩ (fK j pt c.kind c.val (kq f++jX b) i c.keys).1/\lZ j pt a (kq f) (hU ⟨d,n,b++[⟨c,(fK j pt c.kind c.val (kq f++jX b) i c.keys).2⟩],e⟩) (fK j pt c.kind c.val (kq f++jX b) i c.keys).1=h)
theorem Kp {W w' n:World}{C R:Nat}{M:List Nat}{e:Ending}(P:T+5000<=100000000000)(w:a<=1000)(y:v.k.C=C)(o:v.k.R=R)(hb:xH a T E s i)(p:eH M n W)(c:dB n M (mT v k))(h:Je W w' X j pt a g l m f v s k i e):∃z q,e= .returned (.tuple #[z,q])/\OR w' X j pt a g l m f C R T E M n (lZ j pt a (kq f) s i) z q/\NZ q w' R<s.st.held.length+1:=by
 have D:=p.size;rcases h with⟨F,rfl,d,r⟩|⟨x,H,I,t,b,rfl,d,r,J,A,K,L⟩
 .exact⟨_,_,rfl,⟨v,s,k,i,y,o,d,p.trans r c.left,c,.inl ⟨rfl,rfl,hb,(zc F).symm⟩⟩,Nat.succ_pos _⟩
 .have N:=hb.got b t j pt (kq f);refine⟨_,_,rfl,⟨I,_,k,i,J.trans y,A.trans o,d,p.trans K c.left,c.app D L (dB.refl _ _),.inr ⟨s.d,fm s.st x,s.qs,x.c,s.told,v.qi,H,rfl,r,rfl,rfl,by omega,fun u O=>by have:=(hb.ji u O).2;omega,N,(zb b t).symm⟩⟩,?_⟩;show tM w' R+1<_;have B:=d.jV.uz.rd.len;rw[A,o]at B;rw[B];have:=jc t;show(fm s.st x).held.length+1<_;omega
theorem Di {w:World}(h:mY w X j pt a g l m f v s k i)(hT:T+5000<=100000000000)(L:a<=1000)(hb:xH a T E s i):Calls prog 59 #[.pointer (some ⟨X,0,none⟩),.pointer (some ⟨v.k.C,0,none⟩)] w fun e w'=>e= .returned (.tuple #[])/\∃v' u,mY w' X j pt a g l m f v' (lZ j pt a (kq f) (hU s) i).1 u (lZ j pt a (kq f) (hU s) i).2/\v'.k.C=v.k.C/\xH a T E (lZ j pt a (kq f) (hU s) i).1 (lZ j pt a (kq f) (hU s) i).2/\eH (mT v k) w w'/\dB w (mT v k) (mT v' u):=by
 obtain⟨C,hC⟩:∃C,v.k.C=C:=⟨_,rfl⟩
 obtain⟨R,hR⟩:∃R,v.k.R=R:=⟨_,rfl⟩
 have av:=hb.told;have aw:=hb.wl;have N:=cb (Qo h (by omega) (by omega));rw[hC]at N⊢;have HA:=cb (cd (hb.tell (Bq h.jV.uz.di) h.jV.ok) (cd hC hR));generalize hM:mT v k=M at*;have HM:=cb hM;have F:Hid (∀(t:World) (p:fB) (x:dE) (n:List fe) (d:List dS),mY t X j pt a g l m f p x n d->p.k.C=C->xH a T E x d->Calls prog 89 #[.pointer (some ⟨C,0,none⟩)] t fun e w'=>e= .returned (.tuple #[])/\∃v',mY w' X j pt a g l m f v' (hU x) n d/\v'.k.C=C/\v'.k.R=p.k.R/\eH p.cM t w'/\dB t p.cM v'.cM/\xH a T E (hU x) d):=fun t p x n d H r o=>by
  have a1:=o.told;have a2:=o.wl;have:=Qo H (by omega) (by omega);rw[r]at this;refine this.mono ?_;rintro e w' ⟨rfl,v',b1,b2,b3,b4,b5⟩;exact⟨rfl,v',b1,b2,b3,b4,b5,o.tell (Bq H.jV.uz.di) H.jV.ok⟩
 have y:Hid (∀(t:World) (p:fB) (x:dE) (n:List fe) (d:List dS),mY t X j pt a g l m f p x n d->p.k.C=C->p.k.R=R->xH a T E x d->eH M w t->dB w M (mT p n)->Calls prog 90 #[.pointer (some ⟨C,0,none⟩)] t fun e w'=>∃O B,e= .returned (.tuple #[O,B])/\OR w' X j pt a g l m f C R T E M w (lZ j pt a (kq f) x d) O B/\NZ B w' R<x.st.held.length+1):=fun t p x n d H r I o Y Z=>by
  have a1:=o.told;have a2:=o.wl;have:=Hv H (by omega) (by omega);rw[r]at this;refine this.mono ?_;intro e w' ho;exact Kp hT L r I o Y Z ho
 go_enter func59,ntmps59;go_wp2_with fail
 refine N.out.mono ?_;rintro e t ⟨rfl,p,H,r,I,k1,l1⟩;have aa:=cb (y.out t p (hU s) k i H r (I.trans HA.out.2.2) HA.out.1 (k1.more (fun b hb=>by rw[<-HM.out];exact cr.2 (.inl hb))) (by rw[<-HM.out];exact(dB.refl _ _).app (PC _) l1 (dB.refl _ _)));go_wp2_with fail
 refine aa.out.mono ?_;rintro e w2 ⟨O,B,rfl,A,hm⟩;have ab:=cb A;go_wp2_with fail
 go_loopw [4,5] (fun O B wr=>Hid (OR wr X j pt a g l m f C R T E M w (lZ j pt a (kq f) (hU s) i) O B)) (fun _ B wr=>NZ B wr R)
 case atStart=>exact ab
 case round=>
  obtain⟨v2,s2,ac,ax,J,P,z,hk,hl,ho⟩:=hrel.out;rcases ho with⟨rfl,rfl,K,ht⟩|⟨d2,ad,ay,c,ae,az,vq,rfl,af,rfl,rfl,ag,ah,K,ht⟩
  .have HF:=cb (show∃v' u,mY wr X j pt a g l m f v' (lZ j pt a (kq f) (hU s) i).1 u (lZ j pt a (kq f) (hU s) i).2/\v'.k.C=C/\xH a T E (lZ j pt a (kq f) (hU s) i).1 (lZ j pt a (kq f) (hU s) i).2/\eH M w wr/\dB w M (mT v' u)from by
    rw[<-ht];exact⟨v2,ac,z,J,K,hk,hl⟩)
   go_wp2;go_end0;exact⟨rfl,HF.out⟩
  .have Q:=Ny z af ag ah;rw[J]at Q;have ai:NZ (.bool true) wr R=ad.held.length+1:=by
    show tM wr R+1=_;rw[<-P,z.jV.uz.rd.len];rfl
   have aj:=cb ai;have D:=cb (cd K (cd ht (cd hk (cd hl (cd J P)))));have Q:=cb Q;generalize hq:vq.q=q at Q⊢;go_wp2_with fail
   refine Q.out.mono ?_;rintro e w3 ⟨rfl,S,h3,k3,l3⟩;have ak:=cb (F.out w3 v2 _ S _ h3 D.out.2.2.2.2.1 D.out.1);have H3:=cb (cd k3 l3);go_wp2_with fail
   refine ak.out.mono ?_;rintro e w4 ⟨rfl,v4,h4,al,am,k4,l4,an⟩;have U:=D.out.2.2.1.trans H3.out.1 D.out.2.2.2.1;have V:=D.out.2.2.2.1.trans H3.out.2 D.out.2.2.1.size;have ao:=U.trans k4 V.left;have ap:=V.app U.size l4 (dB.refl _ _);have aq:=cb (y.out w4 v4 _ S _ h4 al (am.trans D.out.2.2.2.2.2) an ao ap);go_wp2_with fail
   refine aq.out.mono ?_;rintro e w5 ⟨aA,ar,rfl,A,hm⟩;rw[D.out.2.1]at A;have au:=cb (show NZ ar w5 R<NZ (.bool true) wr R by rw[aj.out];exact hm);have W:=cb A;go_wp2_with fail
   go_roundw;case rel=>exact W
   case measure=>exact au.out
variable {i f T:Nat}{d:List fB}{cs:List dE}{v:fB}{s s':dE}{c r:List dS}
section
variable {α:Type}
theorem ku {l:List α}{x:α}(h:l[i]?=some x):l=l.take i++x::l.drop (i+1):=by
 obtain⟨a,e⟩:=cq.1 h;conv=>lhs;rw[<-ij i l,gX a,e]
theorem qc {l:List α}{x:α}(h:l[i]?=some x)(y:α):l.set i y=l.take i++y::l.drop (i+1):=by
 obtain⟨a,e⟩:=cq.1 h;rw[List.set_eq_take_append_cons_drop,cN a]
theorem wH (l:List α)(i:Nat)(x:α):(l.set i x).take i=l.take i:=by
 apply fS;intro j;rw[Pw,Pw];split
 .rw[de (by omega)]
 .rfl
theorem vZ (l:List α)(i:Nat)(x:α):(l.set i x).drop (i+1)=l.drop (i+1):=by
 apply fS;intro j;rw[iy,iy,de (by omega)]
end
def mN (d:List fB)(cs:List dE):List (Nat×Nat×Value):=(d.zip cs).flatMap (fun p=>jq p.1.k.C p.1.qi p.2.qs)
def Jb (d:List fB)(cs:List dE)(i:Nat):List (Nat×Nat×Value):=mN (d.take i) (cs.take i)++mN (d.drop (i+1)) (cs.drop (i+1))
def wo (cs:List dE):List (Nat×Nat):=cs.flatMap (fun c=>jX c.qs)
def lJ (cs:List dE)(i:Nat):List (Nat×Nat):=wo (cs.take i)++wo (cs.drop (i+1))
theorem vx (A B:List fB)(a b:List dE)(h:A.length=a.length):mN (A++B) (a++b)=mN A a++mN B b:=by
 unfold mN;rw[pz h,jD]
theorem qb (v:fB)(B:List fB)(s:dE)(a:List dE):mN (v::B) (s::a)=jq v.k.C v.qi s.qs++mN B a:=by
 unfold mN;simp
theorem xE (h:d.length=cs.length)(a:d[i]?=some v)(b:cs[i]?=some s):(mN d cs).Perm (Jb d cs i++jq v.k.C v.qi s.qs):=by
 have c:=ku a;have e:=ku b;have f:mN d cs=mN (d.take i) (cs.take i)++(jq v.k.C v.qi s.qs++mN (d.drop (i+1)) (cs.drop (i+1))):=by
  conv=>lhs;rw[c,e]
  rw[vx _ _ _ _ (by grind),qb]
 rw[f];unfold Jb;rw[fx];exact oB _ List.perm_append_comm
theorem LA (d:List fB)(cs:List dE)(i:Nat)(v:fB)(s:dE):Jb (d.set i v) (cs.set i s) i=Jb d cs i:=by
 unfold Jb;rw[wH,wH,vZ,vZ]
theorem CD (cs:List dE)(i:Nat)(s:dE):lJ (cs.set i s) i=lJ cs i:=by
 unfold lJ;rw[wH,vZ]
theorem Ao:∀(d:List fB) (cs:List dE),d.length=cs.length->(∀(i:Nat) (v:fB) (s:dE),d[i]?=some v->cs[i]?=some s->v.qi.length=s.qs.length)->kq (mN d cs)=wo cs:=by
 intro d;induction d with
 |nil=>intro cs h _;cases cs with
  |nil=>rfl
  |cons s cs=>simp at h
 |cons v d b=>
  intro cs h a;cases cs with
  |nil=>simp at h
  |cons s cs=>
   rw[qb,yj,b cs (by grind) (fun i v s c e=>a (i+1) v s (by simp_all) (by simp_all))];unfold wo;congr 1;exact wY _ _ _ (a 0 v s rfl rfl)
theorem BB:∀(cs:List dE) (N:Nat),(∀s∈cs,(jX s.qs).length<=N)->(wo cs).length<=N*cs.length:=by
 intro cs;induction cs with
 |nil=>intro N _;exact cG _
 |cons s cs a=>
  intro N h;have b:=a N (fun x c=>h x (by simp[c]));have d:=h s (by simp);unfold wo at b⊢;rw[nZ,cI,dc,Nat.mul_add,PZ];omega
structure fs (W:World)(X sv pt win g sc:Nat)(cv:Value)(cis:List fB)(cs:List dE)(vs:List fe)(ss:List dS):Prop where
 eC:W.heap[X]?=some (CQ sv pt win cv (.slice (some ⟨g,0,none⟩) sv sc))
 gb:∃Zg,W.heap[g]?=some (.cells Zg 137 (0,0))/\∀(j:Nat) (u:fe),vs[j]?=some u->Zg[j]?=some (.pointer (some ⟨u.S,0,none⟩))
 len:vs.length=sv
 s1:1<=sv
 s4:sv<=4
 Re:sv<=sc
 yM:pt<=16
 w6:win<=6
 row:W.ownsRow 0 116 1 cv cis.length (cis.map (fun v=>dC v.k.C))
 cl:cis.length=cs.length
 c4:cis.length<=4
 jV:∀(i:Nat) (v:fB) (s:dE),cis[i]?=some v->cs[i]?=some s->gL W win v s
 cap:∀(i j:Nat) (v u:fB),i≠j->cis[i]?=some v->cis[j]?=some u->∀b∈v.cM,b∉u.cM
 ji:ke W vs ss
 ap:∀(i:Nat) (v:fB),cis[i]?=some v->∀b∈v.cM,b∉jK vs
 mr:∀(o:Nat) (u:fe),vs[o]?=some u->PM o u.l (mN cis cs)
 wl:∀s∈cs,s.qs.length<=win
def eL (X:Nat)(l:Value)(d:List fB)(n:List fe):List Nat:=X::(l.ownBlock.toList++((d.map fB.cM).flatten++jK n))
theorem oo {b:Nat}:b∈(d.map fB.cM).flatten↔∃(i:Nat) (v:fB),d[i]?=some v/\b∈v.cM:=by
 rw[kL];constructor
 .rintro ⟨l,f,a⟩;obtain⟨v,c,rfl⟩:=dA.1 f;obtain⟨j,g,e⟩:=dG.1 c;exact⟨j,v,by grind,a⟩
 .rintro ⟨j,v,c,a⟩;exact⟨v.cM,dA.2 ⟨v,cu c,rfl⟩,a⟩
section
variable {W:World}{X q pt f g t:Nat}{l:Value}{d:List fB}{cs:List dE}{n:List fe}{r:List dS}
theorem fs.get (h:fs W X q pt f g t l d cs n r)(a:d[i]?=some v):∃s,cs[i]?=some s/\gL W f v s:=by
 have b:i<cs.length:=by rw[<-h.cl];exact(cq.1 a).1
 exact⟨_,cp b,h.jV i v _ a (cp b)⟩
theorem fs.EC (h:fs W X q pt f g t l d cs n r)(a:cs[i]?=some s):∃v,d[i]?=some v/\gL W f v s:=by
 have b:i<d.length:=by rw[h.cl];exact(cq.1 a).1
 exact⟨_,cp b,h.jV i _ s (cp b) a⟩
theorem fs.Ou (h:fs W X q pt f g t l d cs n r):∀(i:Nat) (v:fB) (s:dE),d[i]?=some v->cs[i]?=some s->v.qi.length=s.qs.length:=fun i v s a b=>(h.jV i v s a b).qu.len
theorem fs.On (h:fs W X q pt f g t l d cs n r):∀s∈cs,(jX s.qs).length<=24:=fun s a=>by
 obtain⟨i,k,e⟩:=dG.1 a
 have j:cs[i]?=some s:=by grind
 obtain⟨v,m,b⟩:=h.EC j
 have o:=yL s.qs 4 (fun x c=>by
  have:=(b.ok x c).len;have:=(b.ok x c).w.cm.k4;omega)
 have p:=h.wl s a
 have u:=h.w6
 omega
theorem fs.MW (h:fs W X q pt f g t l d cs n r)(i:Nat):kq (Jb d cs i)=lJ cs i:=by
 unfold Jb lJ;rw[yj];congr 1
 .refine Ao _ _ (by rw[fh,fh,h.cl]) (fun j v s a b=>?_);rw[Pw]at a b;split at a
  .rw[cN ‹_›]at b;exact h.Ou j v s a b
  .cases a
 .refine Ao _ _ (by rw[fR,fR,h.cl]) (fun j v s a b=>?_);rw[iy]at a b;exact h.Ou _ v s a b
theorem ry {p:Nat×Nat×Value}(h:p∈mN d cs):∃(i k m:Nat) (v:fB) (s:dE) (c:QI) (x:QS),d[i]?=some v/\cs[i]?=some s/\v.qi[k]?=some c/\s.qs[k]?=some x/\p.2.2=gS v.k.C c.q m/\x.ps[m]?=some (.op p.1 p.2.1):=by
 obtain⟨z,e,f⟩:=iB.1 h;obtain⟨i,a⟩:=ga.1 e;rw[et]at a;obtain⟨y,g,j⟩:=iB.1 f;obtain⟨k,b⟩:=ga.1 g;rw[et]at b;obtain⟨m,_,l,n⟩:=yK _ _ _ _ _ j;exact⟨i,k,m,z.1,z.2,y.1,y.2,a.1,a.2,b.1,b.2,l,by simp_all⟩
theorem fs.run (h:fs W X q pt f g t l d cs n r)(a:d[i]?=some v)(b:cs[i]?=some s):mY W X q pt f g t l (Jb d cs i) v s n r:=by
 refine⟨h.eC,h.gb,h.len,h.s1,h.s4,h.Re,h.yM,h.jV i v s a b,h.ji,h.ap i v a,fun o u w=>(h.mr o u w).perm (xE h.cl a b),fun p y=>?_,?_⟩
 .have c:=(xE h.cl a b).mem_iff.2 (cr.2 (.inl y));obtain⟨i,k,m,v,s,B,x,_,_,_,_,e,_⟩:=ry c;exact⟨_,_,_,e⟩
 .have C:(Jb d cs i).length=(lJ cs i).length:=by rw[<-h.MW i];unfold kq;rw[dp]
  have z:=BB (cs.take i) 24 (fun x j=>h.On x (fH j));have A:=BB (cs.drop (i+1)) 24 (fun x j=>h.On x (List.mem_of_mem_drop j));have D:=h.c4;have E:=h.cl;rw[fh]at z;rw[fR]at A;have:(lJ cs i).length=(wo (cs.take i)).length+(wo (cs.drop (i+1))).length:=by unfold lJ;rw[cI]
  omega
theorem fs.uh {S:World}{w:List fe}(h:fs W X q pt f g t l d cs n r){v':fB}(M:d[i]?=some v)(F:mY S X q pt f g t l (Jb d cs i) v' s' w c)(hC:v'.k.C=v.k.C)(k:eH (mT v n) W S)(T:dB W (mT v n) (mT v' w))(hw:s'.qs.length<=f):fs S X q pt f g t l (d.set i v') (cs.set i s') w c/\eH (eL X l d n) W S/\dB W (eL X l d n) (eL X l (d.set i v') w):=by
 have H:=(cq.1 M).1;have B:i<cs.length:=by rw[<-h.cl];exact H
 obtain⟨s0,aa,N⟩:=h.get M;have O:(d.set i v').map (fun v=>dC v.k.C)=d.map (fun v=>dC v.k.C):=by
  apply fS;intro j;rw[cL,cL,dD];split
  .rename_i e;subst e;rw[M];simp[hC]
  .rfl
 have I:∀(j:Nat) (u:fB),d[j]?=some u->∀b∈u.cM,b<W.heap.size:=fun j u m b hb=>by
  obtain⟨s,J,x⟩:=h.get m;exact x.old b hb
 have U:∀(j:Nat) (u:fB),j≠i->d[j]?=some u->∀b∈u.cM,b∉mT v n:=fun j u hj m b hb C=>by
  rcases cr.1 C with e|e
  .exact h.cap j i u v hj m M b hb e
  .exact h.ap j u m b hb e
 have P:∀L,l.ownBlock=some L->L∉mT v n:=fun L V C=>by
  obtain⟨Z,Y⟩:=cZ h.row V;rcases cr.1 C with e|e
  .exact N.apart Y (by decide) e
  .exact h.ji.apart Y (by decide) (by decide) e
 have D:∀b∈mT v n,b∈eL X l d n:=fun b hb=>by
  rcases cr.1 hb with e|e
  .exact cJ _ (cr.2 (.inr (cr.2 (.inl (oo.2 ⟨i,v,M,e⟩)))))
  .exact cJ _ (cr.2 (.inr (cr.2 (.inr e))))
 refine⟨⟨F.eC,F.gb,F.len,h.s1,h.s4,h.Re,h.yM,h.w6,?_,by simp[h.cl],by rw[dj];exact h.c4,fun j u s m J=>?_,fun a j u1 u2 y h1 E b z A=>?_,F.ji,fun j u m b hb C=>?_,fun o u m=>?_,fun s J=>?_⟩,k.more D,fun b hb=>?_⟩
 .rw[O,dj];exact dR h.row (fun L V=>by
   obtain⟨Z,Y⟩:=cZ h.row V;exact k.block L (cA Y) (P L V))
 .by_cases K:i=j
  .subst K;rw[cK H]at m;rw[cK B]at J;cases m;cases J;exact F.jV
  .rw[de K]at m J;have x:=h.jV j u s m J;exact x.keep (fun b hb=>k.block b (x.old b hb) (U j u (fun e=>K e.symm) m b hb))
 .rw[dD]at h1 E;split at h1
  .rename_i e1;subst e1;split at E
   .rename_i Q;exact y Q
   .simp at h1;subst h1;rcases T b (cr.2 (.inl z))with h3|h3
    .exact U j u2 (fun e=>y e.symm) E b A h3
    .have:=I j u2 E b A;omega
  .split at E
   .rename_i Q;subst Q;simp at E;subst E;rcases T b (cr.2 (.inl A))with h3|h3
    .exact U a u1 y h1 b z h3
    .have:=I a u1 h1 b z;omega
   .exact h.cap a j u1 u2 y h1 E b z A
 .rw[dD]at m;split at m
  .simp at m;subst m;exact F.ap b hb C
  .rename_i e;rcases T b (cr.2 (.inr C))with h3|h3
   .exact U j u (fun Q=>e Q.symm) m b hb h3
   .have:=I j u m b hb;omega
 .have hp:=xE (d:=d.set i v') (cs:=cs.set i s') (by simp[h.cl]) (cK H) (cK B);rw[LA]at hp;exact(F.mr o u m).perm hp.symm
 .rcases da J with h1|h1
  .exact h.wl s h1
  .rw[h1];exact hw
 .unfold eL at hb;rcases cQ.1 hb with e|hb
  .exact .inl (by rw[e];simp[eL])
  rcases cr.1 hb with hb|hb
  .exact .inl (by unfold eL;exact cJ _ (cr.2 (.inl hb)))
  have p:b∈mT v' w->b∈eL X l d n\/W.heap.size<=b:=fun C=>by
   rcases T b C with h3|h3
   .exact .inl (D b h3)
   .exact .inr h3
  rcases cr.1 hb with hb|hb
  .obtain⟨j,u,m,R⟩:=oo.1 hb;rw[dD]at m;split at m
   .simp at m;subst m;exact p (cr.2 (.inl R))
   .exact .inl (by unfold eL;exact cJ _ (cr.2 (.inr (cr.2 (.inl (oo.2 ⟨j,u,m,R⟩))))))
  .exact p (cr.2 (.inr hb))
theorem fs.Ct (h:fs W X q pt f g t l d cs n r):∃a c,l= .slice a d.length c:=by
 rcases h.row.2 with⟨e,b⟩|⟨k,i,j,e,_⟩
 .exact⟨_,_,by rw[e,b]⟩
 .exact⟨_,_,e⟩
theorem fs.Nl (h:fs W X q pt f g t l d cs n r)(k:d[i]?=some v):∃a c,l= .slice (some ⟨a,0,none⟩) d.length c/\a<W.heap.size/\W.cell? ⟨a,i,none⟩=some (.pointer (some ⟨v.k.C,0,none⟩)):=by
 have u:=(cq.1 k).1;rcases h.row.2 with⟨e,w⟩|⟨p,b,j,e,_,m,x,_,_,s⟩
 .omega
 .refine⟨p,b,e,cA m,?_⟩;rw[cn m i];have o:(j.toList.take (d.length*1))[i]?=(d.map (fun v=>dC v.k.C))[i]?:=by rw[s]
  rw[dx (by omega),cL,k]at o;simpa [dC]using o
end
def iF (cs:List dE):Nat:=(cs.map (fun s=>s.st.held.length)).sum
theorem uB (h:cs[i]?=some s):iF cs=iF (cs.take i)+(s.st.held.length+iF (cs.drop (i+1))):=by
 unfold iF;conv=>lhs;rw[ku h]
 rw[dF,List.sum_append,eu,List.sum_cons]
theorem sW (h:cs[i]?=some s)(s':dE):iF (cs.set i s')=iF (cs.take i)+(s'.st.held.length+iF (cs.drop (i+1))):=by
 unfold iF;rw[qc h,dF,List.sum_append,eu,List.sum_cons]
structure qD (win T:Nat)(cs:List dE)(ss:List dS):Prop where
 told:∀s∈cs,s.told.length+1000*(s.qs.length+s.st.held.length)<=T
 wl:∀s∈cs,s.qs.length<=win
 ji:∀u∈ss,u.next<65536/\u.je.length+4000*iF cs<=T
theorem qD.at_ (h:qD f T cs r)(a:cs[i]?=some s):xH f T (4000*(iF (cs.take i)+iF (cs.drop (i+1)))) s r:=by
 have b:=cu a;refine⟨h.told s b,h.wl s b,fun u c=>?_⟩;have:=h.ji u c;rw[uB a]at this;exact⟨this.1,by omega⟩
theorem qD.set (h:qD f T cs r)(b:cs[i]?=some s)(hb:xH f T (4000*(iF (cs.take i)+iF (cs.drop (i+1)))) s' c):qD f T (cs.set i s') c:=by
 refine⟨fun x a=>?_,fun x a=>?_,fun u d=>?_⟩
 .rcases da a with h1|h1
  .exact h.told x h1
  .rw[h1];exact hb.told
 .rcases da a with h1|h1
  .exact h.wl x h1
  .rw[h1];exact hb.wl
 .have:=hb.ji u d;rw[sW b];exact⟨this.1,by omega⟩
def mC (q pt f i:Nat)(a:List dE×List dS):List dE×List dS:=
 match a.1[i]?with
 |none=>a
 |some s=>(a.1.set i (lZ q pt f (lJ a.1 i) (hU s) a.2).1,(lZ q pt f (lJ a.1 i) (hU s) a.2).2)
theorem uD {w:World}{X q pt g t:Nat}{l:Value}{n:List fe}(h:fs w X q pt f g t l d cs n r)(c:d[i]?=some v)(o:T+5000<=100000000000)(hb:qD f T cs r):Calls prog 59 #[.pointer (some ⟨X,0,none⟩),.pointer (some ⟨v.k.C,0,none⟩)] w fun e w'=>e= .returned (.tuple #[])/\∃v' a,v'.k.C=v.k.C/\fs w' X q pt f g t l (d.set i v') (mC q pt f i (cs,r)).1 a (mC q pt f i (cs,r)).2/\qD f T (mC q pt f i (cs,r)).1 (mC q pt f i (cs,r)).2/\eH (eL X l d n) w w'/\dB w (eL X l d n) (eL X l (d.set i v') a):=by
 obtain⟨s,b,_⟩:=h.get c;have p:=h.w6;refine(Di (h.run c b) o (by omega) (hb.at_ b)).mono ?_;rintro e w' ⟨rfl,v',a,u,k,j,x,y⟩;obtain⟨m,z,A⟩:=h.uh c u k x y j.wl;rw[h.MW i]at m j;refine⟨rfl,v',a,k,?_,?_,z,A⟩
 .unfold mC;simp only[b]
  exact m
 .unfold mC;simp only[b]
  exact hb.set b j
variable {o id m:Nat}{p:Nat×Value}{a:List PS}{d:QI}{P Q:List (Nat×Nat×Value)}{e:Nat×Nat×Value}{l:List (Nat×Value)}{W f:World}{c:iO}
def Bv (o id:Nat):PS->Bool
 |⟨.inl (some (a,b))⟩=>a==o&&b==id
 |_=>false
theorem CO {p:PS}:Bv o id p=true↔p= .op o id:=by
 cases p using PS.el with
 |op a b=>simp[Bv]
 |_=>simp[Bv]
def uW (o id:Nat):List PS->Nat->Option Nat
 | [],_=>none
 |p::a,m=>if Bv o id p=true then some m else uW o id a (m+1)
def sQ (o id:Nat):List QS->Nat->Option (Nat×Nat)
 | [],_=>none
 |x::a,k=>match uW o id x.ps 0 with
  |some m=>some (k,m)
  |none=>sQ o id a (k+1)
def mR (o id:Nat):List dE->Nat->Option (Nat×Nat×Nat)
 | [],_=>none
 |s::a,i=>match sQ o id s.qs 0 with
  |some (k,m)=>some (i,k,m)
  |none=>mR o id a (i+1)
section
variable (o id:Nat)
theorem Es:∀(a:List PS) (b m:Nat),uW o id a b=some m->∃j,m=b+j/\a[j]?=some (.op o id):=by
 intro a;induction a with
 |nil=>intro b m h;cases h
 |cons p a c=>
  intro b m h;unfold uW at h;split at h
  .rename_i d;cases h;exact⟨0,rfl,by rw[CO.1 d];rfl⟩
  .obtain⟨j,e,f⟩:=c _ _ h;exact⟨j+1,by omega,by simp_all⟩
theorem Er:∀(a:List PS) (b:Nat),uW o id a b=none->∀p∈a,p≠ .op o id:=by
 intro a;induction a with
 |nil=>intro b h p c;cases c
 |cons p a d=>
  intro b h q f;unfold uW at h;split at h
  .cases h
  .rename_i g;rcases cQ.1 f with e|e
   .rw[e];intro i;exact g (CO.2 i)
   .exact d _ h q e
theorem Ep:∀(a:List QS) (b k m:Nat),sQ o id a b=some (k,m)->∃j x,k=b+j/\a[j]?=some x/\x.ps[m]?=some (.op o id):=by
 intro a;induction a with
 |nil=>intro b k m h;cases h
 |cons x a d=>
  intro b k m h;unfold sQ at h;split at h
  .rename_i i f;cases h;obtain⟨j,e,c⟩:=Es _ _ _ _ _ f;rw[eB]at e;subst e;exact⟨0,x,rfl,rfl,c⟩
  .obtain⟨j,y,e,c,g⟩:=d _ _ _ h;exact⟨j+1,y,by omega,by simp_all,g⟩
theorem Eo:∀(a:List QS) (b:Nat),sQ o id a b=none->∀x∈a,∀p∈x.ps,p≠ .op o id:=by
 intro a;induction a with
 |nil=>intro b h x c;cases c
 |cons x a d=>
  intro b h y f;unfold sQ at h;split at h
  .cases h
  .rename_i g;rcases cQ.1 f with e|e
   .rw[e];exact Er _ _ _ _ g
   .exact d _ h y e
theorem rQ:∀(cs:List dE) (a i k m:Nat),mR o id cs a=some (i,k,m)->∃j s x,i=a+j/\cs[j]?=some s/\s.qs[k]?=some x/\x.ps[m]?=some (.op o id):=by
 intro cs;induction cs with
 |nil=>intro a i k m h;cases h
 |cons s cs d=>
  intro a i k m h;unfold mR at h;split at h
  .rename_i l n f;cases h;obtain⟨j,x,e,c,b⟩:=Ep _ _ _ _ _ _ f;rw[eB]at e;subst e;exact⟨0,s,x,rfl,rfl,c,b⟩
  .obtain⟨j,g,x,e,c,b⟩:=d _ _ _ _ h;exact⟨j+1,g,x,by omega,by simp_all,b⟩
theorem yg:∀(cs:List dE) (a:Nat),mR o id cs a=none->∀s∈cs,∀x∈s.qs,∀p∈x.ps,p≠ .op o id:=by
 intro cs;induction cs with
 |nil=>intro a h s b;cases b
 |cons s cs c=>
  intro a h y d;unfold mR at h;split at h
  .cases h
  .rename_i f;rcases cQ.1 d with e|e
   .rw[e];exact Eo _ _ _ _ f
   .exact c _ h y e
end
theorem Mk (C q:Nat)(h:a[m]?=some (.op o id))(b:Nat):∃P Q,rE C q b a=P++(o,id,gS C q ((b+m:Nat):Int))::Q/\∀c v,rE C q b (a.set m (.an c v))=P++Q:=by
 have e:=(cq.1 h).1;have d:(a.take m).length=m:=by grind
 refine⟨rE C q b (a.take m),rE C q (b+m+1) (a.drop (m+1)),?_,fun c v=>?_⟩
 .conv=>lhs;rw[ku h,vw,d]
  rfl
 .rw[qc h,vw,d];rfl
theorem Kw (C:Nat){a:List QI}{b:List QS}(q:a.length=b.length){k:Nat}{x:QS}(o:a[k]?=some d)(j:b[k]?=some x)(h:rE C d.q 0 x.ps=P++e::Q):∃l m,jq C a b=l++e::m/\∀f:QS,rE C d.q 0 f.ps=P++Q->jq C a (b.set k f)=l++m:=by
 have n:=ku o;have p:=ku j;have g:(a.take k).length=(b.take k).length:=by grind
 have c:∀(y:QS),jq C (a.take k++d::a.drop (k+1)) (b.take k++y::b.drop (k+1))=jq C (a.take k) (b.take k)++(rE C d.q 0 y.ps++jq C (a.drop (k+1)) (b.drop (k+1))):=fun y=>by
  unfold jq;rw[pz g,jD];simp
 refine⟨jq C (a.take k) (b.take k)++P,Q++jq C (a.drop (k+1)) (b.drop (k+1)),?_,fun f i=>?_⟩
 .conv=>lhs;rw[n,p]
  rw[c x,h];simp
 .rw[qc j];conv=>lhs;rw[n]
  rw[c f,i];simp
theorem Kv {a:List fB}{cs:List dE}(m:a.length=cs.length){i:Nat}{v:fB}{s:dE}(k:a[i]?=some v)(d:cs[i]?=some s)(h:jq v.k.C v.qi s.qs=P++e::Q):∃f g,mN a cs=f++e::g/\∀s':dE,jq v.k.C v.qi s'.qs=P++Q->mN a (cs.set i s')=f++g:=by
 have j:=ku k;have l:=ku d;have b:(a.take i).length=(cs.take i).length:=by grind
 refine⟨mN (a.take i) (cs.take i)++P,Q++mN (a.drop (i+1)) (cs.drop (i+1)),?_,fun s' c=>?_⟩
 .conv=>lhs;rw[j,l]
  rw[vx _ _ _ _ b,qb,h];simp
 .rw[qc d];conv=>lhs;rw[j]
  rw[vx _ _ _ _ b,qb,c];simp
theorem PM.same {a:List (Nat×Nat×Value)}(h:PM o l a){q:Nat×Value}(b:p∈l)(c:q∈l)(e:p.1=q.1):p=q:=by
 obtain⟨i,m,d⟩:=dG.1 b;obtain⟨j,n,f⟩:=dG.1 c;have g:(l.map (·.1))[i]?=(l.map (·.1))[j]?:=by grind
 have k:=(PV (by simp_all) h.nd).1 g;subst k;rw[<-d,<-f]
theorem PM.take {a:Value}(h:PM o l (P++(o,id,a)::Q)){j:Nat}(e:l[j]?=some p)(g:p.1=id):PM o (l.eraseIdx j) (P++Q):=by
 have b:=cu e;have c:(id,a)∈l:=h.mem.2 (by simp);have d:=h.same b c g;subst d;have i:=ku e;have k:=List.eraseIdx_eq_take_drop_succ l j;have f:l.Perm ((id,a)::l.eraseIdx j):=by
  conv=>lhs;rw[i]
  rw[k];exact List.perm_middle
 refine⟨?_,?_⟩
 .have m:((id,a)::l.eraseIdx j).Perm ((id,a)::((P++Q).filter (fun p=>p.1==o)).map (·.2)):=by
   refine f.symm.trans (h.pm.trans ?_);rw[gN,List.filter_cons,cN (by simp),gN,dF,eu,dF];exact List.perm_middle
  exact List.Perm.cons_inv m
 .have:=((f.map (·.1)).nodup_iff).1 h.nd;exact(py.1 this).2
theorem PM.skip {a:Nat}(h:PM o l (P++(a,p)::Q))(b:a≠o):PM o l (P++Q):=by
 refine⟨?_,h.nd⟩;have:=h.pm;rw[gN,List.filter_cons,cD (by simp_all),<-gN]at this;exact this
theorem Sf (d:QI)(c:iO)(a b:List PS)(o id e:Nat)(v:ByteArray):(QS.n ⟨c,a++ .op o id::b⟩=QS.n ⟨c,a++ .an e v::b⟩+1)/\nz d ⟨c,a++ .an e v::b⟩={nz d ⟨c,a++ .op o id::b⟩with n:=QS.n ⟨c,a++ .an e v::b⟩,re:=QS.re ⟨c,a++ .op o id::b⟩ || decide (e=2)}/\qX (a++ .an e v::b)=(qX (a++ .op o id::b)).set! a.length (.bool (decide (e=0)))/\rB (a++ .an e v::b)=(rB (a++ .op o id::b)).set! a.length (.string v):=by
 refine⟨?_,?_,?_,?_⟩
 .unfold QS.n;simp[List.countP_cons,PS.opn];try omega
 .unfold nz QS.n QS.fa QS.re;simp[PS.opn,PS.bad,PS.ref];cases (a.any PS.ref)<;>cases (b.any PS.ref)<;>simp
 .unfold qX;simp[PS.yes]
 .unfold rB;simp[PS.val]
theorem NP {p:PS}(h:a[m]?=some p):(a.take m).length=m:=by grind
theorem kN.Pf {g:Nat}{v:ByteArray}(h:kN W d ⟨c,a⟩)(i:a[m]?=some (.op o id))(r:∀b∈d.kb.toList,f.heap[b]?=W.heap[b]?)(s:f.heap[d.q]?=some (BD {nz d ⟨c,a⟩with n:=QS.n ⟨c,a.set m (.an g v)⟩,re:=QS.re ⟨c,a⟩ || decide (g=2)}))(t:f.heap[d.yb]?=some (.cells ((qX a).set! m (.bool (decide (g=0)))) 4 (0,0)))(u:f.heap[d.vb]?=some (.cells ((rB a).set! m (.string v)) 9 (0,0))):kN f d ⟨c,a.set m (.an g v)⟩:=by
 have j:=ku i;have k:=qc i (.an g v);have w:=NP i;obtain⟨_,l,n,p⟩:=Sf d c (a.take m) (a.drop (m+1)) o id g v;rw[<-j,<-k,w]at n p;rw[<-j,<-k]at l;refine⟨?_,?_,?_,?_⟩
 .rw[l];exact s
 .rw[n];exact t
 .rw[p];exact u
 .rcases h.keys with e|⟨q,x,Z,f1,f2,f3,f4,y,f5⟩
  .exact .inl e
  .exact .inr ⟨q,x,Z,f1,f2,f3,f4,(r q (by rw[f1];simp)).trans y,f5⟩
theorem Ov (d:a[m]?=some (.op o id))(b:Nat)(v:ByteArray):QS.n ⟨c,a⟩=QS.n ⟨c,a.set m (.an b v)⟩+1:=by
 have f:=ku d;have g:=qc d (.an b v);obtain⟨e,_⟩:=Sf ⟨0,0,0,none,.slice none 0 0⟩ c (a.take m) (a.drop (m+1)) o id b v;rw[<-f,<-g]at e;exact e
theorem ke.put {q:List fe}{E:List dS}(h:ke W q E){v v':fe}{s':dS}(t:q[o]?=some v)(F:∀b∈jK q,b∉v.cM->f.heap[b]?=W.heap[b]?)(H:kD f v' s')(y:dB W v.cM v'.cM):ke f (q.set o v') (E.set o s')/\dB W (jK q) (jK (q.set o v')):=by
 have z:=(cq.1 t).1;refine⟨⟨by simp[h.len],fun j u s a x=>?_,fun i j A B c n l b d g=>?_⟩,fun b r=>?_⟩
 .by_cases p:o=j
  .subst p;rw[cK z]at a;rw[cK (by grind)]at x;cases a;cases x;exact H
  .rw[de p]at a x;have C:=h.ok j u s a x;exact C.keep (fun b r=>F b (gJ.2 ⟨j,u,a,r⟩) (h.ap j o u v (fun e=>p e.symm) a t b r))
 .rw[dD]at n l;have m:=fun k u a b r=>h.old b (gJ.2 ⟨k,u,a,r⟩)
  split at n
  .rename_i I;subst I;split at l
   .rename_i D;exact c D
   .simp at n;subst n;rcases y b d with h3|h3
    .exact h.ap o j v B c t l b h3 g
    .have:=m j B l b g;omega
  .split at l
   .rename_i D;subst D;simp at l;subst l;rcases y b g with h3|h3
    .exact h.ap i o A v c n t b d h3
    .have:=m i A n b d;omega
   .exact h.ap i j A B c n l b d g
 .obtain⟨j,u,a,w⟩:=gJ.1 r;rw[dD]at a;split at a
  .rename_i e;simp at a;subst a;rcases y b w with h3|h3
   .exact .inl (gJ.2 ⟨o,v,t,h3⟩)
   .exact .inr h3
  .exact .inl (gJ.2 ⟨j,u,a,w⟩)
structure HO where
 v:Bool⊕(Nat×Nat×Nat×oc)
abbrev HO.stop (a:Bool):HO:=⟨.inl a⟩
abbrev HO.got (i k m:Nat)(r:oc):HO:=⟨.inr (i,k,m,r)⟩
theorem HO.el {q:HO->Prop}(stop:∀a,q (.stop a))(got:∀a b c d,q (.got a b c d))(p:HO):q p:=match p with|⟨.inl a⟩=>stop a|⟨.inr (a,b,c,d)⟩=>got a b c d
def mU (cs:List dE)(i k:Nat):Int:=match cs[i]?with
 |none=>0
 |some s=>match s.qs[k]?with
  |none=>0
  |some x=>x.c.kind
def lW (cs:List dE)(s:dS)(o:Nat):HO:=
 match lV s.held with
 |(none,a)=> .stop a
 |(some r,_)=>match mR o r.id cs 0 with
  |none=> .stop false
  |some (i,k,m)=>if vp (mU cs i k) r=true then .got i k m r else .stop false
def MM (s:dE)(k m:Nat)(r:oc):dE:=match s.qs[k]?with
 |none=>s
 |some x=>{s with qs:=s.qs.set k ⟨x.c,x.ps.set m (.an r.st r.val)⟩}
def zp (cs:List dE)(i k m:Nat)(r:oc):List dE:=match cs[i]?with
 |none=>cs
 |some s=>cs.set i (MM s k m r)
variable {i k m o:Nat}{v:fB}{s:dE}{x:QS}{u:fe}{l:dS}
section
variable {W:World}{X q pt d g t:Nat}{f:Value}{a:List fB}{cs:List dE}{c:List fe}{n:List dS}
theorem fs.nX (h:fs W X q pt d g t f a cs c n):(∀(i:Nat) (v:fB),a[i]?=some v->X∉v.cM/\g∉v.cM)/\X∉jK c/\g∉jK c:=by
 obtain⟨k,b,l⟩:=h.gb;refine⟨fun i v j=>?_,h.ji.apart h.eC (by decide) (by decide),h.ji.apart b (by decide) (by decide)⟩;obtain⟨s,_,e⟩:=h.get j;exact⟨e.apart h.eC (by decide),e.apart b (by decide)⟩
theorem fs.Kk (h:fs W X q pt d g t f a cs c n){b:Nat}(k:f.ownBlock=some b):b<W.heap.size/\(∀(i:Nat) (v:fB),a[i]?=some v->b∉v.cM)/\b∉jK c:=by
 obtain⟨l,e⟩:=cZ h.row k;refine⟨cA e,fun i v m=>?_,h.ji.apart e (by decide) (by decide)⟩;obtain⟨s,_,j⟩:=h.get m;exact j.apart e (by decide)
theorem qI (h:fs W X q pt d g t f a cs c n)(j:a[i]?=some v):∀b∈v.cM,b<W.heap.size:=fun b k=>by
 obtain⟨s,l,e⟩:=h.get j
 exact e.old b k
theorem fs.part (h:fs W X q pt d g t f a cs c n){id:Nat}(l:cs[i]?=some s)(p:s.qs[k]?=some x)(z:x.ps[m]?=some (.op o id)):∃v b,a[i]?=some v/\v.qi[k]?=some b/\∃P Q,mN a cs=P++(o,id,gS v.k.C b.q m)::Q/\∀(j:Nat) (w:ByteArray),mN a (cs.set i {s with qs:=s.qs.set k ⟨x.c,x.ps.set m (.an j w)⟩})=P++Q:=by
 obtain⟨v,r,u⟩:=h.EC l;have A:k<v.qi.length:=by rw[u.qu.len];exact(cq.1 p).1
 obtain⟨b,e⟩:∃b,v.qi[k]?=some b:=⟨_,cp A⟩
 refine⟨v,b,r,e,?_⟩;obtain⟨J,K,y,B⟩:=Mk v.k.C b.q z 0;rw[eB]at y;obtain⟨L,M,C,D⟩:=Kw v.k.C u.qu.len e p y;obtain⟨E,F,H,I⟩:=Kv h.cl r l C;exact⟨E,F,H,fun j w=>I _ (D _ (B j w))⟩
theorem fs.heard {D:World}(h:fs W X q pt d g t f a cs c n){u':fe}{su':dS}{E:QI}{r:oc}{F:List Nat}(M:c[o]?=some u)(aa:n[o]?=some l)(B:a[i]?=some v)(N:cs[i]?=some s)(J:v.qi[k]?=some E)(hx:s.qs[k]?=some x)(hq:kN D E ⟨x.c,x.ps.set m (.an r.st r.val)⟩)(O:oJ s.d ⟨x.c,x.ps.set m (.an r.st r.val)⟩)(P:kD D u' su')(hS:u'.S=u.S)(hl:dB W u.cM u'.cM)(Z:eH F W D)(hF:∀b∈F,b∈u.cM\/b∈E.cM)(Q:∀(o':Nat) (z:fe),(c.set o u')[o']?=some z->PM o' z.l (mN a (cs.set i {s with qs:=s.qs.set k ⟨x.c,x.ps.set m (.an r.st r.val)⟩}))):fs D X q pt d g t f a (cs.set i {s with qs:=s.qs.set k ⟨x.c,x.ps.set m (.an r.st r.val)⟩}) (c.set o u') (n.set o su')/\eH (eL X f a c) W D/\dB W (eL X f a c) (eL X f a (c.set o u')):=by
 have R:=(cq.1 N).1;have ab:=(cq.1 M).1;obtain⟨K,S,T⟩:=h.nX;have w:∀b∈E.cM,b∈v.cM:=fun b hb=>cr.2 (.inr (jy.2 ⟨E,cu J,hb⟩))
 have A:∀b∈u.cM,b∈jK c:=fun b hb=>gJ.2 ⟨o,u,M,hb⟩
 have H:∀b,b<W.heap.size->b∉u.cM->b∉E.cM->D.heap[b]?=W.heap[b]?:=fun b hb n1 n2=>Z.block b hb (fun hm=>by grind)
 obtain⟨r1,r2⟩:=h.ji.put M (fun b hb U=>H b (h.ji.old b hb) U (fun e=>h.ap i v B b (w b e) hb)) P hl;obtain⟨Zg,g1,g2⟩:=h.gb;have L:∀b∈F,b∈eL X f a c:=fun b hb=>by
  rcases hF b hb with e|e
  .exact cJ _ (cr.2 (.inr (cr.2 (.inr (A b e)))))
  .exact cJ _ (cr.2 (.inr (cr.2 (.inl (oo.2 ⟨i,v,B,w b e⟩)))))
 refine⟨⟨(H X (cA h.eC) (fun e=>S (A X e)) (fun e=>(K i v B).1 (w X e))).trans h.eC,⟨Zg,(H g (cA g1) (fun e=>T (A g e)) (fun e=>(K i v B).2 (w g e))).trans g1,fun j z p=>?_⟩,by rw[dj];exact h.len,h.s1,h.s4,h.Re,h.yM,h.w6,?_,by rw[dj];exact h.cl,h.c4,fun j z y p I=>?_,h.cap,r1,fun j z p b hb V=>?_,Q,fun y I=>?_⟩,Z.more L,fun b hb=>?_⟩
 .rw[dD]at p;split at p
  .rename_i e;subst e;simp at p;subst p;rw[hS];exact g2 o u M
  .exact g2 j z p
 .exact dR h.row (fun Y hg=>by
   obtain⟨a1,a2,a3⟩:=h.Kk hg;exact H Y a1 (fun e=>a3 (A Y e)) (fun e=>a2 i v B (w Y e)))
 .by_cases C:i=j
  .subst C;rw[B]at p;cases p;rw[cK R]at I;cases I;exact(h.jV i v s B N).NJ J hx (fun b hb U=>H b (qI h B b hb) (fun e=>h.ap i v B b hb (A b e)) U) hq rfl O
  .rw[de C]at I;exact(h.jV j z y p I).keep (fun b hb=>H b (qI h p b hb) (fun e=>h.ap j z p b hb (A b e)) (fun e=>h.cap j i z v (fun e2=>C e2.symm) p B b hb (w b e)))
 .rcases r2 b V with h3|h3
  .exact h.ap j z p b hb h3
  .have:=qI h p b hb;omega
 .rcases da I with h1|h1
  .exact h.wl y h1
  .rw[h1];rw[dj];exact h.wl s (cu N)
 .unfold eL at hb⊢;rcases cQ.1 hb with e|hb
  .exact .inl (by rw[e];simp)
  rcases cr.1 hb with hb|hb
  .exact .inl (cJ _ (cr.2 (.inl hb)))
  rcases cr.1 hb with hb|hb
  .exact .inl (cJ _ (cr.2 (.inr (cr.2 (.inl hb)))))
  .rcases r2 b hb with h3|h3
   .exact .inl (cJ _ (cr.2 (.inr (cr.2 (.inr h3)))))
   .exact .inr h3
end
theorem RD {W:World}{X q pt d g t:Nat}{f:Value}{a:List fB}{cs:List dE}{c:List fe}{n:List dS}(h:fs W X q pt d g t f a cs c n)(hu:c[o]?=some u)(ae:n[o]?=some l):
 Calls prog 94 #[.pointer (some ⟨u.S,0,none⟩)] W fun e w'=>match lW cs l o with
  |⟨.inl ok⟩=>e= .returned (.tuple #[.pointer none,.bool ok])/\Below W.heap.size W w'
  |⟨.inr (i,k,m,r)⟩=>∃v u',a[i]?=some v/\7<=r.used/\r.used<=l.held.length/\u'.S=u.S/\e= .returned (.tuple #[.pointer (some ⟨v.k.C,0,none⟩),.bool true])/\fs w' X q pt d g t f a (zp cs i k m r) (c.set o u') (n.set o {l with held:=l.held.drop r.used})/\eH (eL X f a c) W w'/\dB W (eL X f a c) (eL X f a (c.set o u')):=by
 have w:=h.ji.ok o u l hu ae
 have I:=h.mr o u hu
 unfold lW
 rcases hf:lV l.held with⟨ro,ok⟩
 cases ro with
 |none=>
  refine(Rn u.S u.hb _ l.held ok W w.DV hf).mono ?_;rintro e w' ⟨h1,h2⟩;exact⟨h1,h2⟩
 |some r=>
  obtain⟨ap,aD,hid,aq,ar,au⟩:=oM hf;subst ap;simp only
  cases hp:mR o r.id cs 0 with
  |none=>
   have av:∀p∈u.l,p.1≠r.id:=fun p S e=>by
    obtain⟨i,k,m,v,s,D,x,_,T,_,M,_,U⟩:=ry (I.mem.1 S);rw[show(o,p).2.1=r.id from e]at U;exact yg o r.id cs 0 hp s (cu T) x (cu M) _ (cu U) rfl
   refine(Bt u.S u.hb _ l.held r u.l W w.DV hf w.mp av).mono ?_;rintro e w' ⟨h1,h2⟩;exact⟨h1,h2⟩
  |some z=>
   obtain⟨i,k,m⟩:=z;simp only
   obtain⟨i',s,x,e1,T,M,U⟩:=rQ o r.id cs 0 i k m hp;rw[eB]at e1;subst e1;obtain⟨v,D,hv,V,P,Q,hP,aw⟩:=h.part T M U;have Y:mU cs i k=x.c.kind:=by unfold mU;rw[T];simp only;rw[M]
   have N:=h.jV i v s hv T;have hQ:=N.qu.qu k D x V M;have J:=N.ok x (cu M);have ax:=(cq.1 U).1;have af:=J.len;have aE:=J.w.cm.k4;have ag:(r.id,gS v.k.C D.q (m:Int))∈u.l:=I.mem.2 (by rw[hP];simp);have ah:∃p∈u.l,p.1=r.id:=⟨_,ag,rfl⟩
   have O:∀p∈u.l,p.1=r.id->p.2=gS v.k.C D.q (m:Int):=fun p S e=>by rw[I.same S ag e]
   have Z:=hQ.eC;unfold BD at Z;rw[Y];by_cases B:vp x.c.kind r=true
   .rw[cN B];simp only
    have ay:=Ov (c:=x.c) U r.st r.val;have az:QS.n ⟨x.c,x.ps.set m (.an r.st r.val)⟩<=1000:=by
     have:QS.n ⟨x.c,x.ps.set m (.an r.st r.val)⟩<=(x.ps.set m (.an r.st r.val)).length:=oC;rw[dj]at this;omega
    have R:=Z;rw[show(nz D x).n=QS.n ⟨x.c,x.ps.set m (.an r.st r.val)⟩+1 from ay]at R;refine(RF u.S v.k.C D.q D.yb D.vb m x.ps.length u.hb _ l.held r u.l x.c.kind D.kv x.c.val x.c.word x.c.fatal x.c.id (QS.n ⟨x.c,x.ps.set m (.an r.st r.val)⟩) x.fa x.re (qX x.ps) (rB x.ps) W w.DV hf w.mp ah O R hQ.yes hQ.val (by unfold qX;simp) (by unfold rB;simp) ax (by omega) az B).mono ?_;rintro e w' ⟨rfl,K,j,p,a1,a2,a3,a4,a5,a6,a7,a8,a9⟩;have ai:∀b,u.bv.ownBlock=some b->b<W.heap.size:=fun b A=>w.old b (by simp[fe.cM,A])
    obtain⟨n1,n2,n3,n4,n5⟩:=w.nS;have E:=fun b A C=>h.ap i v hv b (cr.2 (.inr (jy.2 ⟨D,cu V,A⟩))) (gJ.2 ⟨o,u,hu,C⟩)
    have aj:=fun b A=>a9.block b (ai b A) (fun C=>by
     have aa:b∈u.cM:=by simp[fe.cM,A]
     simp at C;rcases C with e|e|e|e|e|e
     .exact n3 (by rw[A,e])
     .exact n5 (by rw[A,e])
     .exact E b (by rw[e];simp[QI.cM]) aa
     .exact E b (by rw[e];simp[QI.cM]) aa
     .exact E b (by rw[e];simp[QI.cM]) aa
     .exact w.ab b A e)
    have ak:kD w' {u with hb:=K,l:=u.l.eraseIdx j} {l with held:=l.held.drop r.used}:=by
     refine⟨a1,a5,w.Bj,w.row.other aj,w.nx,fun b A F=>?_⟩;simp only at A F;rcases a2 with e|e|⟨z,e,L⟩
     .exact w.ab b A (by rw[<-e];exact F)
     .rw[e]at F;cases F
     .rw[e]at F;cases F;have:=ai _ A;omega
    have aA:dB W u.cM (fe.cM {u with hb:=K,l:=u.l.eraseIdx j}):=fun b A=>by
     unfold fe.cM at A⊢;simp at A⊢;rcases A with e|e|e|e
     .simp[e]
     .simp[e]
     .rcases a2 with e2|e2|⟨z,e2,L⟩
      .rw[e2]at e;simp[e]
      .rw[e2]at e;cases e
      .rw[e2]at e;cases e;exact .inr L
     .simp[e]
    have al:∀b∈D.kb.toList,w'.heap[b]?=W.heap[b]?:=fun b A=>a9.block b (hQ.old b (by simp[QI.cM];right;right;right;exact lj A)) (fun C=>by
     have ab:b∈D.cM:=by simp[QI.cM];right;right;right;exact lj A
     have H:=hQ.nd;unfold QI.cM at H;have aB:=lj A;rw[aB]at H;simp at H;simp at C;rcases C with e|e|e|e|e|e
     .exact E b ab (by rw[e];simp[fe.cM])
     .exact E b ab (by rw[e];simp[fe.cM])
     .exact H.1.2.2 e.symm
     .exact H.2.1.2 e.symm
     .exact H.2.2 e.symm
     .exact E b ab (by simp[fe.cM,e]))
    have aC:kN w' D ⟨x.c,x.ps.set m (.an r.st r.val)⟩:=by
     refine hQ.Pf U al ?_ a7 a8;exact a6
    have ac:tV x.c.kind (.an r.st r.val):=by
     refine⟨by omega,aq,?_⟩;unfold vp at B;rw[fA,cO,cX,cX]at B;rcases B with⟨e1,e2⟩|e1
     .exact .inr ⟨e1,e2⟩
     .left;have:=rO e1;rw[this];rfl
    have am:oJ s.d ⟨x.c,x.ps.set m (.an r.st r.val)⟩:=⟨J.w,by show(x.ps.set m _).length=_;rw[dj];exact af,fun y hy=>by
     rcases da hy with h1|h1
     .exact J.ps y h1
     .rw[h1];exact ac⟩
    have an:zp cs i k m r=cs.set i {s with qs:=s.qs.set k ⟨x.c,x.ps.set m (.an r.st r.val)⟩}:=by
     unfold zp MM;rw[T];simp only
     rw[M]
    rw[an];have ao:=h.heard (u':={u with hb:=K,l:=u.l.eraseIdx j}) (su':={l with held:=l.held.drop r.used}) hu ae hv T V M aC am ak rfl aA a9 (fun b A=>by
     simp at A;rcases A with e|e|e|e|e|e
     .exact .inl (by rw[e];simp[fe.cM])
     .exact .inl (by rw[e];simp[fe.cM])
     .exact .inr (by rw[e];simp[QI.cM])
     .exact .inr (by rw[e];simp[QI.cM])
     .exact .inr (by rw[e];simp[QI.cM])
     .exact .inl (by simp[fe.cM,e])) (fun o' z L=>by
     rw[aw];rw[dD]at L;split at L
     .rename_i e;subst e;split at L
      .cases L;rw[hP]at I;exact I.take a3 a4
      .cases L
     .rename_i e;have:=h.mr o' z L;rw[hP]at this;exact this.skip e)
    exact⟨v,{u with hb:=K,l:=u.l.eraseIdx j},hv,ar,au,rfl,rfl,ao⟩
   .rw[cD B];simp only
    have ad:vp x.c.kind r=false:=by simpa using B
    refine(RE u.S v.k.C D.q m u.hb _ l.held r u.l x.c.kind _ _ _ _ _ _ _ _ _ _ W w.DV hf w.mp ah O Z ad).mono ?_;rintro e w' ⟨h1,h2⟩;exact⟨h1,h2⟩
variable {o k q i:Nat}{l:List (Nat×Value)}{c:List (Nat×Nat×Value)}{x:QS}{v:fB}{b:QI}{s:dE}{a:List fB}{cs:List dE}
def jW (o:Nat):PS->PS
 |⟨.inl (some (a,id))⟩=>if a=o then .fl else .op a id
 |p=>p
def mx (o:Nat)(x:QS):QS:=⟨x.c,x.ps.map (jW o)⟩
def lU (o:Nat)(s:dE):dE:={s with qs:=s.qs.map (mx o)}
def Jd (o:Nat):PS->Bool
 |⟨.inl (some (a,_))⟩=>a==o
 |_=>false
def vV (o:Nat)(a:List PS):Nat:=a.countP (Jd o)
section
variable (o:Nat)
theorem JP:∀b:List PS,(b.map (jW o)).countP PS.opn+vV o b=b.countP PS.opn:=by
 intro b;induction b with
 |nil=>rfl
 |cons p b c=>
  unfold vV at c⊢;rw[eu,jb,jb,jb];have d:(if PS.opn (jW o p)=true then 1 else 0)+(if Jd o p=true then 1 else 0)=(if PS.opn p=true then 1 else 0:Nat):=by
   cases p using PS.el with
   |op a id=>by_cases h:a=o<;>simp[jW,h,Jd,PS.opn]
   |_=>rfl
  omega
theorem LB:∀b:List PS,(b.map (jW o)).any PS.bad=(b.any PS.bad || decide (0<vV o b)):=by
 intro b;induction b with
 |nil=>rfl
 |cons p b c=>
  unfold vV at c⊢;rw[eu,qU,qU,c,jb];cases p using PS.el with
  |op a id=>
   by_cases h:a=o
   .simp[jW,h,Jd,PS.bad]
   .simp[jW,h,Jd,PS.bad]
  |un=>simp[jW,Jd,PS.bad]
  |an d v=>simp[jW,Jd,PS.bad]
  |fl=>simp[jW,Jd,PS.bad]
theorem LD (b:List PS):(b.map (jW o)).any PS.ref=b.any PS.ref:=by
 induction b with
 |nil=>rfl
 |cons p b c=>
  rw[eu,qU,qU,c];cases p using PS.el with
  |op a id=>by_cases h:a=o<;>simp[jW,h,PS.ref]
  |_=>rfl
theorem JS (b:List PS):(b.map (jW o)).map PS.yes=b.map PS.yes:=by
 rw[PK];apply kF;intro p _;cases p using PS.el with
 |op a id=>by_cases h:a=o<;>simp[jW,h,PS.yes]
 |_=>rfl
theorem JR (b:List PS):(b.map (jW o)).map PS.val=b.map PS.val:=by
 rw[PK];apply kF;intro p _;cases p using PS.el with
 |op a id=>by_cases h:a=o<;>simp[jW,h,PS.val]
 |_=>rfl
theorem LC (b:QI)(x:QS):nz b (mx o x)=sr (nz b x) (vV o x.ps)/\qX (mx o x).ps=qX x.ps/\rB (mx o x).ps=rB x.ps:=by
 have f:=JP o x.ps;have a:=LB o x.ps;have c:=LD o x.ps;have d:((mx o x).ps.map (fun p=>Value.bool p.yes))=x.ps.map (fun p=>Value.bool p.yes):=by
  have:=congrArg (List.map Value.bool) (JS o x.ps);simpa [mx]using this
 have e:((mx o x).ps.map (fun p=>Value.string p.val))=x.ps.map (fun p=>Value.string p.val):=by
  have:=congrArg (List.map Value.string) (JR o x.ps);simpa [mx]using this
 refine⟨?_,?_,?_⟩
 .unfold nz sr QS.n QS.fa QS.re mx;simp only[dp,a,c]
  congr 1;omega
 .unfold qX;rw[d]
 .unfold rB;rw[e]
end
theorem JQ (o C q:Nat):∀(b:List PS) (i:Nat),rE C q i (b.map (jW o))=(rE C q i b).filter (fun p=>p.1 != o):=by
 intro b;induction b with
 |nil=>intro i;rfl
 |cons p b c=>
  intro i;cases p using PS.el with
  |op a id=>
   by_cases h:a=o
   .simp[jW,h,rE,c]
   .simp[jW,h,rE,c]
  |un=>simpa [jW,rE]using c (i+1)
  |an d v=>simpa [jW,rE]using c (i+1)
  |fl=>simpa [jW,rE]using c (i+1)
theorem GN (o C:Nat):∀(b:List QI) (a:List QS),jq C b (a.map (mx o))=(jq C b a).filter (fun p=>p.1 != o):=by
 intro b;induction b with
 |nil=>unfold jq;simp
 |cons v b c=>
  intro a;cases a with
  |nil=>unfold jq;simp
  |cons x a=>
   rw[eu,tQ,tQ,gN,c a];congr 1;exact JQ o C v.q x.ps 0
theorem GM (o:Nat):∀(a:List fB) (cs:List dE),mN a (cs.map (lU o))=(mN a cs).filter (fun p=>p.1 != o):=by
 intro a;induction a with
 |nil=>unfold mN;simp
 |cons v a b=>
  intro cs;cases cs with
  |nil=>unfold mN;simp
  |cons s cs=>
   rw[eu,qb,qb,gN,b cs];congr 1;exact GN o v.k.C v.qi s.qs
theorem PM.GU {a:Nat}(h:PM o l c)(b:a≠o):PM o l (c.filter (fun p=>p.1 != a)):=by
 refine⟨?_,h.nd⟩;rw[List.filter_filter];have e:c.filter (fun p=>(p.1==o)&&(p.1 != a))=c.filter (fun p=>p.1==o):=by grind
 rw[e];exact h.pm
theorem PM.none (o:Nat)(c:List (Nat×Nat×Value)):PM o [] (c.filter (fun p=>p.1 != o)):=by
 refine⟨?_,by simp⟩;rw[List.filter_filter];have e:c.filter (fun p=>(p.1==o)&&(p.1 != o))=[]:=by simp
 simp
theorem tV.fail {k:Int}{p:PS}(h:tV k p)(o:Nat):tV k (jW o p):=by
 cases p using PS.el with
 |op a id=>
  by_cases e:a=o
  .simp[jW,e,tV]
  .simp[jW,e,tV]
 |_=>exact h
theorem oJ.fail {d:Int}(h:oJ d x)(o:Nat):oJ d (mx o x):=
 ⟨h.w,by show(x.ps.map _).length=_;rw[dp];exact h.len,fun p a=>by
  obtain⟨q,b,rfl⟩:=dA.1 a;exact(h.ps q b).fail o⟩
def tY (o q:Nat)(l:List (Nat×Nat×Value)):Nat:=l.countP (fun p=>p.1==o&&QV p.2.2==q)
theorem vW {l:List (Nat×Nat×Value)}(h:∀p∈l,QV p.2.2≠q):tY o q l=0:=by
 unfold tY;rw[kE];intro p a;simp;intro _;exact h p a
theorem xX (o q:Nat)(a b:List (Nat×Nat×Value)):tY o q (a++b)=tY o q a+tY o q b:=qf
theorem JH (o C q:Nat):∀(b:List PS) (i:Nat),tY o q (rE C q i b)=vV o b:=by
 intro b;induction b with
 |nil=>intro i;rfl
 |cons p b c=>
  intro i;unfold vV;rw[jb];cases p using PS.el with
  |op a id=>
   have h:=c (i+1);unfold tY vV at h;show tY o q ((a,id,gS C q i)::rE C q (i+1) b)=_;unfold tY;rw[jb,h];simp[vA,Jd]
  |un=>simpa [rE,Jd,vV]using c (i+1)
  |an d v=>simpa [rE,Jd,vV]using c (i+1)
  |fl=>simpa [rE,Jd,vV]using c (i+1)
theorem PM.cnt (h:PM o l c)(q:Nat):l.countP (fun p=>QV p.2==q)=tY o q c:=by
 rw[h.pm.countP_eq,List.countP_map,List.countP_filter];congr 1;simp[Bool.and_comm]
section
variable {W:World}{X t pt f g u:Nat}{n:Value}{a:List fB}{cs:List dE}{r:List fe}{j:List dS}
theorem fs.one (h:fs W X t pt f g u n a cs r j){m o:Nat}{v':fB}{c:QI}(p:a[i]?=some v)(w:v.qi[k]?=some b)(d:a[m]?=some v')(l:v'.qi[o]?=some c)(e:b.q=c.q):i=m/\k=o:=by
 have x:b.q∈v.cM:=cr.2 (.inr (jy.2 ⟨b,cu w,by simp[QI.cM]⟩));have y:b.q∈v'.cM:=cr.2 (.inr (jy.2 ⟨c,cu l,by simp[QI.cM,e]⟩));have z:=iS fun q=>h.cap i m v v' q p d _ x y
 subst z;rw[p]at d;cases d;refine⟨rfl,iS fun q=>?_⟩;obtain⟨s,B,A⟩:=h.get p;exact A.qu.ap k o b c q w l b.q (by simp[QI.cM]) (by simp[QI.cM,e])
theorem fs.count (h:fs W X t pt f g u n a cs r j)(q:a[i]?=some v)(I:cs[i]?=some s)(z:v.qi[k]?=some b)(K:s.qs[k]?=some x)(o:Nat):tY o b.q (mN a cs)=vV o x.ps:=by
 have D:=xE h.cl q I;have L:tY o b.q (mN a cs)=tY o b.q (Jb a cs i++jq v.k.C v.qi s.qs):=D.countP_eq _;rw[L,xX];have hl:=(h.jV i v s q I).qu.len;have z1:tY o b.q (Jb a cs i)=0:=by
  refine vW fun p l e=>?_
  rcases cr.1 l with hm|hm
  .obtain⟨M,w,m,N,O,d,P,c,C,E,Q,F,R⟩:=ry hm;rw[Pw]at c;split at c
   .rw[F,vA]at e;have:=(h.one c E q z e).1;omega
   .cases c
  .obtain⟨M,w,m,N,O,d,P,c,C,E,Q,F,R⟩:=ry hm;rw[iy]at c;rw[F,vA]at e;have:=(h.one c E q z e).1;omega
 have S:=ku z;have T:=ku K;have H:(v.qi.take k).length=(s.qs.take k).length:=by grind
 have U:jq v.k.C v.qi s.qs=jq v.k.C (v.qi.take k) (s.qs.take k)++(rE v.k.C b.q 0 x.ps++jq v.k.C (v.qi.drop (k+1)) (s.qs.drop (k+1))):=by
  conv=>lhs;rw[S,T]
  unfold jq;rw[pz H,jD];simp
 have part:∀(A:List QI) (B:List QS) (p:Nat×Nat×Value),p∈jq v.k.C A B->∃(w:Nat) (d:QI),A[w]?=some d/\QV p.2.2=d.q:=fun A B p D=>by
  obtain⟨y,V,Y⟩:=iB.1 D;obtain⟨w,J⟩:=ga.1 V;rw[et]at J;obtain⟨m,_,Z,h5⟩:=yK _ _ _ _ _ Y;exact⟨w,y.1,J.1,by rw[Z,vA]⟩
 rw[U,xX,xX,JH];have z2:tY o b.q (jq v.k.C (v.qi.take k) (s.qs.take k))=0:=by
  refine vW fun p l e=>?_
  obtain⟨w,d,c,C⟩:=part _ _ _ l;rw[Pw]at c;split at c
  .rw[C]at e;have:=(h.one q c q z e).2;omega
  .cases c
 have z3:tY o b.q (jq v.k.C (v.qi.drop (k+1)) (s.qs.drop (k+1)))=0:=by
  refine vW fun p l e=>?_
  obtain⟨w,d,c,C⟩:=part _ _ _ l;rw[iy]at c;rw[C]at e;have:=(h.one q c q z e).2;omega
 omega
def Pc (a:List fB)(cs:List dE):List (Nat×QD):=(a.zip cs).flatMap (fun p=>(p.1.qi.zip p.2.qs).map (fun q=>(q.1.q,nz q.1 q.2)))
theorem Rf {z:Nat×QD}:z∈Pc a cs↔∃(i k:Nat) (v:fB) (s:dE) (b:QI) (x:QS),a[i]?=some v/\cs[i]?=some s/\v.qi[k]?=some b/\s.qs[k]?=some x/\z=(b.q,nz b x):=by
 unfold Pc;rw[iB];constructor
 .rintro ⟨y,e,f⟩;obtain⟨i,c⟩:=ga.1 e;rw[et]at c;obtain⟨q,g,rfl⟩:=dA.1 f;obtain⟨k,d⟩:=ga.1 g;rw[et]at d;exact⟨i,k,y.1,y.2,q.1,q.2,c.1,c.2,d.1,d.2,rfl⟩
 .rintro ⟨i,k,v,s,b,x,h,j,l,m,rfl⟩;refine⟨(v,s),ga.2 ⟨i,et.2 ⟨h,j⟩⟩,dA.2 ⟨(b,x),ga.2 ⟨k,et.2 ⟨l,m⟩⟩,rfl⟩⟩
def Ld (a:List fB)(cs:List dE)(q:Nat):Option QD:=((Pc a cs).find? (fun p=>p.1==q)).map (·.2)
theorem vB {d:QD}(h:Ld a cs q=some d):∃(i k:Nat) (v:fB) (s:dE) (b:QI) (x:QS),a[i]?=some v/\cs[i]?=some s/\v.qi[k]?=some b/\s.qs[k]?=some x/\q=b.q/\d=nz b x:=by
 obtain⟨z,c,e⟩:=dX.1 h;have o:=List.find?_some c;have g:=List.mem_of_find?_eq_some c;obtain⟨i,k,v,s,b,x,j,l,m,n,f⟩:=Rf.1 g;refine⟨i,k,v,s,b,x,j,l,m,n,?_,?_⟩
 .have:z.1=q:=by simp_all
  rw[<-this,f]
 .rw[<-e,f]
theorem fs.Oq (h:fs W X t pt f g u n a cs r j)(e:a[i]?=some v)(p:cs[i]?=some s)(l:v.qi[k]?=some b)(q:s.qs[k]?=some x):Ld a cs b.q=some (nz b x):=by
 cases c:Ld a cs b.q with
 |none=>
  unfold Ld at c;rw[Option.map_eq_none_iff,List.find?_eq_none]at c;have:=c (b.q,nz b x) (Rf.2 ⟨i,k,v,s,b,x,e,p,l,q,rfl⟩);simp at this
 |some d=>
  obtain⟨C,D,E,F,z,H,m,w,o,y,A,B⟩:=vB c;obtain⟨rfl,rfl⟩:=h.one e l m o A;rw[e]at m;cases m;rw[p]at w;cases w;rw[l]at o;cases o;rw[q]at y;cases y;rw[B]
end
variable {X l pt a g A o T:Nat}{y:Value}{c:List fB}{cs:List dE}{t:List fe}{r:List dS}{u:fe}{B:dS}
def mz (o:Nat)(r:List dS):List dS:=match r[o]?with
 |none=>r
 |some s=>r.set o {s with up:=false,held:=[]}
theorem IL {W:World}(h:fs W X l pt a g A y c cs t r)(hu:t[o]?=some u)(ab:r[o]?=some B):Calls prog 95 #[.pointer (some ⟨u.S,0,none⟩)] W fun e w'=>e= .returned (.tuple #[])/\fs w' X l pt a g A y c (cs.map (lU o)) (t.set o {u with hb:=none,l:=[]}) (mz o r)/\eH (eL X y c t) W w'/\dB W (eL X y c t) (eL X y c (t.set o {u with hb:=none,l:=[]})):=by
 have w:=h.ji.ok o u B hu ab;have U:=h.mr o u hu;have aq:=(cq.1 hu).1;have ac:∀q d,Ld c cs q=some d->W.heap[q]?=some (BD d):=fun q d V=>by
  obtain⟨i,k,v,s,D,x,O,P,Y,Q,rfl,rfl⟩:=vB V;exact((h.jV i v s O P).qu.qu k D x Y Q).eC
 have ad:∀p∈u.l,∃C q i d,p.2=gS C q i/\Ld c cs q=some d:=fun p hp=>by
  obtain⟨i,k,m,v,s,D,x,O,P,Y,Q,a5,_⟩:=ry (U.mem.1 hp);exact⟨_,_,_,_,a5,h.Oq O P Y Q⟩
 have ae:∀q d,Ld c cs q=some d->u.l.countP (fun p=>QV p.2==q)<=d.n/\d.n<=1000:=fun q d V=>by
  obtain⟨i,k,v,s,D,x,O,P,Y,Q,rfl,rfl⟩:=vB V;rw[U.cnt,h.count O P Y Q o];have R:=(h.jV i v s O P).ok x (cu Q);have h1:=JP o x.ps;have h2:x.ps.countP PS.opn<=x.ps.length:=oC;have h3:=R.len;have h4:=R.w.cm.k4;show vV o x.ps<=x.ps.countP PS.opn/\x.ps.countP PS.opn<=1000;omega
 refine(IK u.S u.hb _ B.held u.l (Ld c cs) W w.DV w.mp ac ad ae).mono ?_;rintro e w' ⟨rfl,O,P,Y,Q,a5,a6,a7,a8⟩;have n:∀b∈u.cM,b∈jK t:=fun b hb=>gJ.2 ⟨o,u,hu,hb⟩
 have hS:u.S∈u.cM:=by simp[fe.cM]
 have hm:u.m∈u.cM:=by simp[fe.cM]
 have K:∀b:Nat,b<W.heap.size->b≠u.S->b≠u.m->(∀(Z:Array Value) f,W.heap[b]?≠some (.cells Z 216 f))->w'.heap[b]?=W.heap[b]?:=fun b hb n1 n2 n3=>a8 b hb n1 n2 (by
  cases V:Ld c cs b with
  |none=>rfl
  |some d=>exact absurd (ac b d V) (n3 _ _))
 have am:eH (eL X y c t) W w':=⟨Q,a5,a6,a7,fun b hb L=>by
  refine a8 b hb (fun e=>L ?_) (fun e=>L ?_) ?_
  .rw[e];exact cJ _ (cr.2 (.inr (cr.2 (.inr (n _ hS)))))
  .rw[e];exact cJ _ (cr.2 (.inr (cr.2 (.inr (n _ hm)))))
  .cases V:Ld c cs b with
   |none=>rfl
   |some d=>
    exfalso;obtain⟨i,k,v,s,D,x,b1,b2,b3,b4,rfl,rfl⟩:=vB V;refine L ?_;exact cJ _ (cr.2 (.inr (cr.2 (.inl (oo.2 ⟨i,v,b1,cr.2 (.inr (jy.2 ⟨D,cu b3,by simp[QI.cM]⟩))⟩)))))⟩
 have ty:∀{b T:Nat} {Z:Array Value} {f:Nat×Nat},W.heap[b]?=some (.cells Z T f)->T≠216->∀(Z':Array Value) f',W.heap[b]?≠some (.cells Z' 216 f'):=fun hb hT Z' f' e=>by simp_all
 have af:∀b∈jK t,b∉u.cM->b≠u.S/\b≠u.m:=fun b _ L=>⟨fun e=>L (by rw[e];exact hS),fun e=>L (by rw[e];exact hm)⟩
 have ag:∀b∈jK t,∀(Z:Array Value) f,W.heap[b]?≠some (.cells Z 216 f):=fun b hb Z f e=>h.ji.apart e (by decide) (by decide) hb
 obtain⟨n1,n2,n3,n4,n5⟩:=w.nS;have ah:kD w' {u with hb:=none,l:=[]} {B with up:=false,held:=[]}:=by
  refine⟨?_,P,w.Bj,w.row.other (fun b hb=>?_),w.nx,fun b hb=>by simp⟩
  .exact O
  .have F:b∈u.cM:=by simp[fe.cM,hb]
   exact K b (w.old b F) (fun e=>n3 (by rw[hb,e])) (fun e=>n5 (by rw[hb,e])) (ag b (n b F))
 have an:dB W u.cM (fe.cM {u with hb:=none,l:=[]}):=fun b hb=>by
  unfold fe.cM at hb⊢;simp at hb⊢;rcases hb with e|e|e<;>simp[e]
 obtain⟨r1,r2⟩:=h.ji.put hu (fun b hb L=>K b (h.ji.old b hb) (af b hb L).1 (af b hb L).2 (ag b hb)) ah an;have ao:mz o r=r.set o {B with up:=false,held:=[]}:=by unfold mz;rw[ab]
 obtain⟨ar,ai,aj⟩:=h.nX;obtain⟨Zg,g1,g2⟩:=h.gb;have hX:=h.eC;unfold CQ at hX;refine⟨rfl,⟨(K X (cA h.eC) (fun e=>ai (by rw[e];exact n _ hS)) (fun e=>ai (by rw[e];exact n _ hm)) (ty hX (by decide))).trans h.eC,⟨Zg,(K g (cA g1) (fun e=>aj (by rw[e];exact n _ hS)) (fun e=>aj (by rw[e];exact n _ hm)) (ty g1 (by decide))).trans g1,fun j z H=>?_⟩,by rw[dj];exact h.len,h.s1,h.s4,h.Re,h.yM,h.w6,?_,by rw[dp];exact h.cl,h.c4,fun i v s' hv M=>?_,h.cap,?_,fun j z H b hb ap=>?_,fun o' z H=>?_,fun s' M=>?_⟩,am,fun b hb=>?_⟩
 .rw[dD]at H;split at H
  .rename_i e;subst e;simp at H;subst H;exact g2 o u hu
  .exact g2 j z H
 .exact dR h.row (fun gg hg=>by
   obtain⟨b1,b2,b3⟩:=h.Kk hg;obtain⟨au,I⟩:=cZ h.row hg;exact K gg b1 (fun e=>b3 (by rw[e];exact n _ hS)) (fun e=>b3 (by rw[e];exact n _ hm)) (ty I (by decide)))
 .rw[cL]at M;obtain⟨s,hs,rfl⟩:=dX.1 M;have I:=h.jV i v s hv hs;have S:∀b∈v.cM,b≠u.S/\b≠u.m:=fun b hb=>⟨fun e=>h.ap i v hv b hb (by rw[e];exact n _ hS),fun e=>h.ap i v hv b hb (by rw[e];exact n _ hm)⟩
  have ak:(s.qs.map (mx o)).map (·.c)=s.qs.map (·.c):=by rw[PK];rfl
  refine⟨?_,I.qk,⟨by rw[I.qu.len];show _=(s.qs.map _).length;rw[dp],fun k D x' N aa=>?_,I.qu.nd⟩,fun x' aa=>?_⟩
  .have:=I.uz.keep (fun b hb=>by
    have F:b∈v.cM:=cr.2 (.inl hb);refine K b (I.old b F) (S b F).1 (S b F).2 (fun Z f e=>?_);exact I.uz.apart e (by decide) hb)
   show gM w' a v.k ⟨s.d,s.st,(s.qs.map (mx o)).map (·.c),s.told⟩;rw[ak];exact this
  .have E:(s.qs.map (mx o))[k]?=some x':=aa;rw[cL]at E;obtain⟨x,R,rfl⟩:=dX.1 E;have hQ:=I.qu.qu k D x N R;obtain⟨f1,f2,f3⟩:=LC o D x;have J:∀b∈D.cM,b∈v.cM:=fun b hb=>cr.2 (.inr (jy.2 ⟨D,cu N,hb⟩))
   have al:=Y D.q _ (h.Oq hv hs N R);rw[U.cnt,h.count hv hs N R o]at al;have my:=J D.yb (by simp[QI.cM]);have mv:=J D.vb (by simp[QI.cM]);refine⟨by rw[f1];exact al,?_,?_,?_⟩
   .show _=some (Obj.cells (qX (mx o x).ps) 4 (0,0));rw[f2];exact(K D.yb (I.old _ my) (S _ my).1 (S _ my).2 (ty hQ.yes (by decide))).trans hQ.yes
   .show _=some (Obj.cells (rB (mx o x).ps) 9 (0,0));rw[f3];exact(K D.vb (I.old _ mv) (S _ mv).1 (S _ mv).2 (ty hQ.val (by decide))).trans hQ.val
   .rcases hQ.keys with e|⟨b',c',Z,e1,e2,e3,e4,hZ,e5⟩
    .exact .inl e
    .have mk:=J b' (by simp[QI.cM,e1]);exact .inr ⟨b',c',Z,e1,e2,e3,e4,(K b' (I.old _ mk) (S _ mk).1 (S _ mk).2 (ty hZ (by decide))).trans hZ,e5⟩
  .have E:x'∈s.qs.map (mx o):=aa;obtain⟨x,R,rfl⟩:=dA.1 E;exact(I.ok x R).fail o
 .rw[ao];exact r1
 .rcases r2 b ap with h3|h3
  .exact h.ap j z H b hb h3
  .have:=qI h H b hb;omega
 .rw[GM];rw[dD]at H;split at H
  .rename_i e;subst e;cases H;exact PM.none o _
  .rename_i e;exact(h.mr o' z H).GU e
 .obtain⟨s,hs,rfl⟩:=dA.1 M;show(s.qs.map _).length<=a;rw[dp];exact h.wl s hs
 .unfold eL at hb⊢;rcases cQ.1 hb with e|hb
  .exact .inl (by rw[e];simp)
  rcases cr.1 hb with hb|hb
  .exact .inl (cJ _ (cr.2 (.inl hb)))
  rcases cr.1 hb with hb|hb
  .exact .inl (cJ _ (cr.2 (.inr (cr.2 (.inl hb)))))
  .rcases r2 b hb with h3|h3
   .exact .inl (cJ _ (cr.2 (.inr (cr.2 (.inr h3)))))
   .exact .inr h3
def sy (l pt a n:Nat)(b:List dE×List dS):List dE×List dS:=(List.range n).foldl (fun b i=>mC l pt a i b) b
theorem uH (l pt a n:Nat)(b:List dE×List dS):sy l pt a (n+1) b=mC l pt a n (sy l pt a n b):=by
 unfold sy;rw[List.range_succ,List.foldl_append];rfl
def pd (l pt a o:Nat)(b:List dE×List dS):List dE×List dS:=sy l pt a b.1.length (b.1.map (lU o),mz o b.2)
theorem CM (o:Nat)(cs:List dE):iF (cs.map (lU o))=iF cs:=by
 unfold iF;rw[PK];rfl
theorem qD.GU (h:qD a T cs r)(o:Nat):qD a T (cs.map (lU o)) (mz o r):=by
 refine⟨fun e b=>?_,fun e b=>?_,fun u d=>?_⟩
 .obtain⟨s,c,rfl⟩:=dA.1 b;have:=h.told s c;show s.told.length+1000*((s.qs.map _).length+s.st.held.length)<=T;rw[dp];exact this
 .obtain⟨s,c,rfl⟩:=dA.1 b;show(s.qs.map _).length<=a;rw[dp];exact h.wl s c
 .rw[CM];unfold mz at d;split at d
  .exact h.ji u d
  .rename_i s c;rcases da d with h1|h1
   .exact h.ji u h1
   .rw[h1];exact h.ji s (cu c)
theorem CF {w:World}(h:fs w X l pt a g A y c cs t r)(hu:t[o]?=some u)(P:r[o]?=some B)(hT:T+5000<=100000000000)(hb:qD a T cs r):Calls prog 64 #[.pointer (some ⟨X,0,none⟩),.pointer (some ⟨u.S,0,none⟩)] w fun e w'=>e= .returned (.tuple #[])/\∃m p,fs w' X l pt a g A y m (pd l pt a o (cs,r)).1 p (pd l pt a o (cs,r)).2/\m.length=c.length/\qD a T (pd l pt a o (cs,r)).1 (pd l pt a o (cs,r)).2/\eH (eL X y c t) w w'/\dB w (eL X y c t) (eL X y m p):=by
 have Q:=cb (IL h hu P);have HB:=cb (hb.GU o);have D:=h.cl.symm;have R:=h.c4;obtain⟨x,s,E⟩:=h.Ct;obtain⟨d,F⟩:∃d,t.set o {u with hb:=none,l:=[]}=d:=⟨_,rfl⟩
 rw[F]at Q;obtain⟨M,Z⟩:∃M,eL X y c t=M:=⟨_,rfl⟩
 rw[Z]at Q;simp only[Z]
 obtain⟨n,hn⟩:∃n,c.length=n:=⟨_,rfl⟩
 have L:=cb (cd hn D);rw[hn]at R E;subst E;have HR:Hid (∀(wr:World) (b:List fB) (f:List dE) (d:List fe) (k:List dS) (i:Nat) (v:fB),fs wr X l pt a g A (.slice x n s) b f d k->b[i]?=some v->qD a T f k->Calls prog 59 #[.pointer (some ⟨X,0,none⟩),.pointer (some ⟨v.k.C,0,none⟩)] wr fun e w'=>e= .returned (.tuple #[])/\∃H p,H.k.C=v.k.C/\fs w' X l pt a g A (.slice x n s) (b.set i H) (mC l pt a i (f,k)).1 p (mC l pt a i (f,k)).2/\qD a T (mC l pt a i (f,k)).1 (mC l pt a i (f,k)).2/\eH (eL X (.slice x n s) b d) wr w'/\dB wr (eL X (.slice x n s) b d) (eL X (.slice x n s) (b.set i H) p)):=fun wr b f d k i v N O S=>uD N O hT S
 go_enter func64,ntmps64;go_wp2_with fail
 refine Q.out.mono ?_;rintro e w1 ⟨rfl,N,k1,l1⟩;have c3:=(PG N.eC).2.2.2.1;have U:=cb (cd N (cd k1 l1));go_wp2_with fail
 go_loopw [13] (fun i wr=>∃(j:Nat) (b:List fB) (q:List fe),j<=n/\i= .int .i64 (j:Int)/\Hid (fs wr X l pt a g A (.slice x n s) b (sy l pt a j (cs.map (lU o),mz o r)).1 q (sy l pt a j (cs.map (lU o),mz o r)).2/\b.length=n/\qD a T (sy l pt a j (cs.map (lU o),mz o r)).1 (sy l pt a j (cs.map (lU o),mz o r)).2/\eH M w wr/\dB w M (eL X (.slice x n s) b q))) (fun i _=>n-(intOf i).toNat)
 case atStart=>exact⟨0,c,d,cG _,rfl,U.out.1,L.out.1,HB.out,U.out.2.1,U.out.2.2⟩
 case round=>
  obtain⟨j,b,q,hj,rfl,z⟩:=hrel;by_cases I:j<n
  .have aa:(j:Int)<(n:Int):=by omega
   obtain⟨v,O⟩:∃v,b[j]?=some v:=⟨_,cp (by rw[z.out.2.1];exact I)⟩
   obtain⟨gg,c',e1,ab,V⟩:=z.out.1.Nl O;rw[z.out.2.1]at e1;have J:=cb (HR.out wr b _ q _ j v z.out.1 O z.out.2.2.1);have ac:n<=s\/True:= .inr Qa;obtain⟨C,hC⟩:∃C,v.k.C=C:=⟨_,rfl⟩
   rw[hC]at V J;go_wp2_with fail
   refine J.out.mono ?_;rintro e w3 ⟨rfl,H,W,b1,b2,b3,b4,b5⟩;have H3:=cb (cd b2 (cd b3 (cd b4 b5)));go_wp2;go_roundw;case rel=>
    obtain⟨_,hl,_,hk,K⟩:=z.out;refine⟨j+1,b.set j H,W,by omega,by go_num,?_⟩;rw[uH];exact⟨b2,by rw[dj];exact hl,b3,hk.trans b4 K,K.trans b5 hk.size⟩
   case measure=>simp[intOf];omega
  .have Y:j=n:=by omega
   subst Y;go_wp2;go_end0;obtain⟨a1,a2,a3,a4,a5⟩:=z.out;have e:pd l pt a o (cs,r)=sy l pt a j (cs.map (lU o),mz o r):=by
    unfold pd;simp only
    rw[L.out.2,L.out.1]
   rw[e,L.out.1];exact⟨rfl,b,q,a1,a2,a3,a4,a5⟩
variable {a b n:List dS}{s:dS}{o i k m l pt d:Nat}{cs:List dE}{r:oc}{c:List dE×List dS}
def lI (n a:List dS):Prop:=a.length=n.length/\∀(j:Nat) (b:dS),a[j]?=some b->∃s,n[j]?=some s/\b.held=s.held/\b.up=s.up
theorem lI.refl (n:List dS):lI n n:=⟨rfl,fun j a h=>⟨a,h,rfl,rfl⟩⟩
theorem lI.trans {c:List dS}(h:lI a b)(k:lI b c):lI a c:=⟨k.1.trans h.1,fun j d e=>by
 obtain⟨f,g,i,l⟩:=k.2 j d e
 obtain⟨m,n,o,p⟩:=h.2 j f g
 exact⟨m,n,i.trans o,l.trans p⟩⟩
theorem lI.at_ (h:lI a b){j:Nat}(c:a[j]?=some s):∃s',b[j]?=some s'/\s'.held=s.held/\s'.up=s.up:=by
 have d:j<b.length:=by rw[h.1];exact(cq.1 c).1
 obtain⟨i,e,f,g⟩:=h.2 j _ (cp d);rw[c]at e;cases e;exact⟨_,cp d,f,g⟩
theorem ID (l pt:Nat)(k:Int)(b:ByteArray)(g:List (Nat×Nat))(n:List dS)(d:List ByteArray):lI n (fK l pt k b g n d).1:=
 qx l pt k b g n (fun d c=>lI n c.1) (lI.refl _) (fun d h c f=>by
  unfold qw;split
  .exact f
  .rename_i s i;split
   .refine f.trans ⟨by simp,fun j m a=>?_⟩;rw[dD]at a;split at a
    .rename_i e;subst e;split at a
     .cases a;exact⟨s,i,rfl,rfl⟩
     .cases a
    .exact⟨m,a,rfl,rfl⟩
   .exact f) d
theorem KN (l pt d:Nat)(a:List (Nat×Nat)):∀(f:Nat) (s:dE) (n:List dS),lI n (uu l pt d a f s n).2:=by
 intro f;induction f with
 |zero=>intro s n;exact lI.refl _
 |succ f b=>
  intro s n;unfold uu;split
  .split
   .exact lI.refl _
   .exact(ID _ _ _ _ _ _ _).trans (b _ _)
  .exact lI.refl _
theorem Gb (l pt d i:Nat)(c:List dE×List dS):lI c.2 (mC l pt d i c).2:=by
 unfold mC;split
 .exact lI.refl _
 .exact KN _ _ _ _ _ _ _
def Bu (n:List dS)(o:Nat):Nat:=match n[o]?with
 |some s=>s.held.length
 |none=>0
theorem qK (h:n[o]?=some s):Bu n o=s.held.length:=by unfold Bu;rw[h]
def Bx (l pt d o:Nat):Nat->List dE×List dS->(List dE×List dS)×Bool
 |0,c=>(c,true)
 |f+1,c=>match c.2[o]?with
  |none=>(c,true)
  |some s=>match lW c.1 s o with
   |⟨.inl a⟩=>(c,a)
   |⟨.inr (i,k,m,r)⟩=>Bx l pt d o f (mC l pt d i (zp c.1 i k m r,c.2.set o {s with held:=s.held.drop r.used}))
theorem At (h:lW cs s o= .got i k m r):7<=r.used/\r.used<=s.held.length/\mR o r.id cs 0=some (i,k,m)/\vp (mU cs i k) r=true/\lV s.held=(some r,true):=by
 unfold lW at h;split at h
 .cases h
 .rename_i f g a;obtain⟨e,_,_,_,b,c⟩:=oM a;subst e;split at h
  .cases h
  .rename_i j l n d;split at h
   .cases h;exact⟨b,c,d,‹_›,a⟩
   .cases h
theorem Qg (b:c.2[o]?=some s)(h:lW c.1 s o= .got i k m r):∃s',(mC l pt d i (zp c.1 i k m r,c.2.set o {s with held:=s.held.drop r.used})).2[o]?=some s'/\s'.held=s.held.drop r.used/\s'.up=s.up/\s'.held.length<s.held.length:=by
 obtain⟨j,n,_⟩:=At h;have a:=(cq.1 b).1;obtain⟨s',e,f,g⟩:=(Gb l pt d i (zp c.1 i k m r,c.2.set o {s with held:=s.held.drop r.used})).at_ (cK a);exact⟨s',e,f,g,by grind⟩
theorem Hn (l pt d o:Nat):∀(f:Nat) (c:List dE×List dS) (g:Nat),Bu c.2 o<f->f<=g->Bx l pt d o g c=Bx l pt d o f c:=by
 intro f;induction f with
 |zero=>omega
 |succ f b=>
  intro c g h n;obtain⟨g,rfl⟩:∃z,g=z+1:=⟨g-1,by omega⟩
  unfold Bx;cases a:c.2[o]?with
  |none=>rfl
  |some s=>
   simp only
   cases e:lW c.1 s o using HO.el with
   |stop p=>rfl
   |got i k m r=>
    obtain⟨q,j,_,_,t⟩:=Qg (l:=l) (pt:=pt) (d:=d) a e;rw[qK a]at h;exact b _ g (by rw[qK j];omega) (by omega)
def sD (l pt d o:Nat)(c:List dE×List dS):(List dE×List dS)×Bool:=Bx l pt d o (Bu c.2 o+1) c
theorem AA {a:Bool}(b:c.2[o]?=some s)(h:lW c.1 s o= .stop a):sD l pt d o c=(c,a):=by
 unfold sD Bx;rw[b];simp only
 rw[h]
theorem CX (a:c.2[o]?=some s)(h:lW c.1 s o= .got i k m r):sD l pt d o c=sD l pt d o (mC l pt d i (zp c.1 i k m r,c.2.set o {s with held:=s.held.drop r.used})):=by
 obtain⟨e,b,_,_,f⟩:=Qg (l:=l) (pt:=pt) (d:=d) a h;unfold sD;conv=>lhs;unfold Bx;rw[a];simp only;rw[h]
 rw[qK a];exact Hn l pt d o _ _ _ (Nat.lt_succ_self _) (by rw[qK b];omega)
def kr (l pt d o:Nat)(c:List dE×List dS):List dE×List dS:=if(sD l pt d o c).2=true then(sD l pt d o c).1 else pd l pt d o (sD l pt d o c).1
theorem qD.an {T:Nat}(h:qD d T cs n)(i k m o:Nat)(r:oc)(p:n[o]?=some s)(l:List UInt8):qD d T (zp cs i k m r) (n.set o {s with held:=l}):=by
 have g:∀u∈n.set o {s with held:=l},u.next<65536/\u.je.length+4000*iF cs<=T:=fun u a=>by
  rcases da a with h1|h1
  .exact h.ji u h1
  .rw[h1];exact h.ji s (cu p)
 unfold zp;split
 .exact⟨h.told,h.wl,g⟩
 .rename_i c b;have j:=cu b;have e:(MM c k m r).told=c.told/\(MM c k m r).qs.length=c.qs.length/\(MM c k m r).st=c.st:=by
   unfold MM;split
   .exact⟨rfl,rfl,rfl⟩
   .exact⟨rfl,by simp,rfl⟩
  refine⟨fun x f=>?_,fun x f=>?_,fun u a=>?_⟩
  .rcases da f with h1|h1
   .exact h.told x h1
   .rw[h1,e.1,e.2.1,e.2.2];exact h.told c j
  .rcases da f with h1|h1
   .exact h.wl x h1
   .rw[h1,e.2.1];exact h.wl c j
  .have q:iF (cs.set i (MM c k m r))=iF cs:=by rw[sW b,uB b,e.2.2]
   rw[q];exact g u a
section
variable {W t:World}{X l pt d g q:Nat}{j:Value}{f:List fB}{cs:List dE}{p:List fe}{n:List dS}
theorem fs.old (h:fs W X l pt d g q j f cs p n):∀b∈eL X j f p,b<W.heap.size:=by
 intro b hb;rcases cQ.1 hb with e|hb
 .rw[e];exact cA h.eC
 rcases cr.1 hb with hb|hb
 .exact(h.Kk (ia hb)).1
 rcases cr.1 hb with hb|hb
 .obtain⟨i,v,c,a⟩:=oo.1 hb;exact qI h c b a
 .exact h.ji.old b hb
theorem fs.keep (h:fs W X l pt d g q j f cs p n)(k:∀b,b∈eL X j f p\/b=g->t.heap[b]?=W.heap[b]?):fs t X l pt d g q j f cs p n:=by
 obtain⟨e,m,o⟩:=h.gb;have r:=fun i v a b c=>k b (.inl (by exact cJ _ (cr.2 (.inr (cr.2 (.inl (oo.2 ⟨i,v,a,c⟩)))))))
 exact⟨(k X (.inl (by simp[eL]))).trans h.eC,⟨e,(k g (.inr rfl)).trans m,o⟩,h.len,h.s1,h.s4,h.Re,h.yM,h.w6,dR h.row (fun u w=>k u (.inl (by simp[eL,w]))),h.cl,h.c4,fun i v s a x=>(h.jV i v s a x).keep (r i v a),h.cap,h.ji.keep (fun b c=>k b (.inl (by exact cJ _ (cr.2 (.inr (cr.2 (.inr c))))))),h.ap,h.mr,h.wl⟩
theorem fs.below (h:fs W X l pt d g q j f cs p n)(hb:Below W.heap.size W t):fs t X l pt d g q j f cs p n:=by
 refine h.keep (fun b a=>?_);obtain⟨i,c,_⟩:=h.gb;rcases a with e|e
 .exact hb.block b (h.old b e)
 .rw[e];exact hb.block g (cA c)
theorem fs.mQ {N:List Nat}(h:fs W X l pt d g q j f cs p n)(c:eH N W t)(i:∀b∈N,b∉eL X j f p/\b≠g):fs t X l pt d g q j f cs p n:=by
 refine h.keep (fun b k=>?_);obtain⟨o,m,_⟩:=h.gb;rcases k with e|e
 .exact c.block b (h.old b e) (fun a=>(i b a).1 e)
 .rw[e];exact c.block g (cA m) (fun a=>(i g a).2 rfl)
end
def sV (w:World)(D:Nat):Nat:=
 match w.cell? ⟨D,3,none⟩,w.cell? ⟨D,4,none⟩with
 |some (.slice _ n _),some (.int _ u)=>n-u.toNat
 |_,_=>0
theorem mj.len {W:World}{D:Nat}{t:Cf}{hb:Option Nat}{s:St}(R:mj W D hb t s):sV W D=s.held.length:=by
 obtain⟨⟨v,u,a,H,b⟩,d⟩:=R;obtain⟨d0,d1,d2,_⟩:=oY a;unfold sV;rw[d1,d2];rcases H.form with⟨rfl,rfl,e,_⟩|⟨g,n,c,f,rfl,_,_,h,i,k,e,j,_⟩
 .rw[e];rfl
 .rw[e,fR,h];simp
theorem CY (a b c:Nat)(u:FrameMode)(w:World)(d:w.cell? ⟨a,0,none⟩=some (.bool true)):CallsD prog 93 #[.pointer (some ⟨a,0,none⟩),.pointer (some ⟨b,0,none⟩),.pointer (some ⟨c,0,none⟩)] u w fun e u' w'=>u'=u/\(e= .returned (.tuple #[])/\w'=w):=by
 go_enter_d func93,ntmps93
 go_wp2;go_end0;exact⟨rfl,rfl⟩
theorem EN (a b c X S:Nat)(u:FrameMode)(w:World)(Q:World->Prop)(i:w.cell? ⟨a,0,none⟩=some (.bool false))(j:w.cell? ⟨b,0,none⟩=some (.pointer (some ⟨X,0,none⟩)))(k:w.cell? ⟨c,0,none⟩=some (.pointer (some ⟨S,0,none⟩)))(d:Calls prog 64 #[.pointer (some ⟨X,0,none⟩),.pointer (some ⟨S,0,none⟩)] w fun e w'=>e= .returned (.tuple #[])/\Q w'):CallsD prog 93 #[.pointer (some ⟨a,0,none⟩),.pointer (some ⟨b,0,none⟩),.pointer (some ⟨c,0,none⟩)] u w fun e u' w'=>u'=u/\(e= .returned (.tuple #[])/\Q w'):=by
 have f:=cb d;go_enter_d func93,ntmps93
 go_wp2_with fail
 refine f.out.mono ?_;rintro e l ⟨rfl,g⟩;have h:=cb g;go_wp2;go_end0;exact⟨rfl,h.out⟩
variable {o b i:Nat}{s:dE}{W n:World}{p:PS}{f:Option Nat}{g:Value}{l:List ByteArray}{x:QS}
theorem GX {a:Nat}{b c:List (Nat×Nat)}(g:a<65536)(n:(iD o b).length<=1000)(p:(iD o c).length<=1000)(h:∀id∈iD o c,∃d,1<=d/\d<=1000/\(id+d) % 65536=a):kX a (iD o (b++c))=kX a (iD o b):=by
 have f:iD o (b++c)=iD o b++iD o c:=by unfold iD;rw[gN,dF]
 obtain⟨q,j,k⟩:=oL a (iD o b) (by omega);rw[f];refine CI a _ (by grind) _ (fun l=>?_) (fun i m=>cr.2 (.inl (k i m)));rcases cr.1 l with e|e
 .exact j e
 .obtain⟨d,d1,d2,d3⟩:=h _ e;omega
def xI (n:Nat)(a:List dS×List PS):Prop:=∀(o id:Nat),(o,id)∈mM a.2->∃s d,a.1[o]?=some s/\1<=d/\d<=n/\(id+d) % 65536=s.next
theorem xI.ids {n:Nat}{a:List dS×List PS}(h:xI n a)(g:n<=1000){s:dS}(c:a.1[o]?=some s):∀id∈iD o (mM a.2),∃d,1<=d/\d<=1000/\(id+d) % 65536=s.next:=fun id hid=>by
 obtain⟨i,d,b,e,j,f⟩:=h o id (wj.1 hid)
 rw[c]at b
 cases b
 exact⟨d,e,by omega,f⟩
theorem ur (q pt:Nat)(k:Int)(e:ByteArray)(f:List (Nat×Nat))(l:List dS)(H:f.length<=100)(n:∀s∈l,s.next<65536)(b:List ByteArray):b.length<=4->xI (200*b.length) (fK q pt k e f l b)/\(fK q pt k e f l b).2.length=b.length/\∀s∈(fK q pt k e f l b).1,s.next<65536:=
 qx q pt k e f l (fun b c=>b.length<=4->xI (200*b.length) c/\c.2.length=b.length/\∀s∈c.1,s.next<65536) (fun _=>⟨fun o id h=>(by cases h),rfl,n⟩) (fun b a c B C=>by
  rw[cI,fu]at C;obtain⟨r,t,v⟩:=B (by omega);rw[cI,fu];have w:∀p,mM (c.2++[p])=mM c.2++mM [p]:=fun p=>QK _ _
  unfold qw;split
  .refine⟨fun o id h=>?_,by simp[t],v⟩;simp[mM]at h;obtain⟨s,d,h1,g,z,i⟩:=r o id (by unfold mM;simpa using h);exact⟨s,d,h1,g,by omega,i⟩
  .rename_i s A;split
   .have D:(iD (fE q pt a) (f++mM c.2)).length<=104:=by
     have:=Qc (fE q pt a) (f++mM c.2);have g:=vu c.2;rw[cI]at this;omega
    obtain⟨f1,_,_⟩:=oL s.next _ (show(iD (fE q pt a) (f++mM c.2)).length<65536 by omega);generalize kX s.next (iD (fE q pt a) (f++mM c.2))=j at*;have m:=(cq.1 A).1;refine⟨fun o id h=>?_,by simp[t],fun u E=>?_⟩
    .rw[w]at h;rcases cr.1 h with h|h
     .obtain⟨x,d,h1,g,z,i⟩:=r o id h;by_cases F:fE q pt a=o
      .subst F;rw[A]at h1;cases h1;exact⟨_,d+j+1,cK m,by omega,by omega,by grind⟩
      .exact⟨x,d,by simp_all,g,by omega,i⟩
     .have y:(o,id)=(fE q pt a,(s.next+j) % 65536):=by simpa [mM]using h
      cases y;exact⟨_,1,cK m,PC _,by omega,by simp_all⟩
    .rcases da E with h1|h1
     .exact v u h1
     .rw[h1];exact Nat.mod_lt _ (by decide)
   .refine⟨fun o id h=>?_,by simp[t],v⟩;simp[mM]at h;obtain⟨x,d,h1,g,z,i⟩:=r o id (by unfold mM;simpa using h);exact⟨x,d,h1,g,by omega,i⟩) b
structure sH where
 B:Nat
 kv:Value
 kb:Option Nat
 pv:Value
 bs:List Nat
def sH.cM (v:sH):List Nat:=v.B::(v.kb.toList++(v.pv.ownBlock.toList++v.bs))
def kO (W:World)(b:Nat):PS->Prop
 |⟨.inl none⟩=>False
 |⟨.inl (some (o,id))⟩=>W.heap[b]?=some (xe o id 0 0 ⟨#[]⟩)
 |⟨.inr (some (a,v))⟩=>∃o id:Nat,W.heap[b]?=some (xe o id 1 a v)
 |⟨.inr none⟩=>∃o id:Nat,W.heap[b]?=some (xe o id 2 0 ⟨#[]⟩)
theorem kO.eC (h:kO W b p):∃Z,W.heap[b]?=some (.cells Z 253 (0,0)):=by
 cases p using PS.el with
 |un=>exact h.elim
 |op o id=>exact⟨_,h⟩
 |an a v=>obtain⟨o,id,h⟩:=h;exact⟨_,h⟩
 |fl=>obtain⟨o,id,h⟩:=h;exact⟨_,h⟩
theorem kO.keep (h:kO W b p)(k:n.heap[b]?=W.heap[b]?):kO n b p:=by
 cases p using PS.el with
 |un=>exact h.elim
 |op o id=>exact k.trans h
 |an a v=>obtain⟨o,id,h⟩:=h;exact⟨o,id,k.trans h⟩
 |fl=>obtain⟨o,id,h⟩:=h;exact⟨o,id,k.trans h⟩
def uQ (W:World)(f:Option Nat)(g:Value)(l:List ByteArray):Prop:=
 (f=none/\l=[]/\∃a d,g= .slice a 0 d/\((∃b o,a=some ⟨b,o,none⟩/\b<W.heap.size)\/d=0))\/∃b o c Z,f=some b/\g= .slice (some ⟨b,o,none⟩) l.length c/\W.heap[b]?=some (.cells Z 9 (0,0))/\(∀(i:Nat) (s:ByteArray),l[i]?=some s->Z[o+i]?=some (.string s))/\l.length<=c
theorem uQ.keep (h:uQ W f g l)(p:W.heap.size<=n.heap.size)(k:∀b,f=some b->n.heap[b]?=W.heap[b]?):uQ n f g l:=by
 rcases h with⟨a,d,j,m,e,i⟩|⟨b,o,c,Z,a,d,e,i⟩
 .refine .inl ⟨a,d,j,m,e,?_⟩;rcases i with⟨b,o,e5,q⟩|e5
  .exact .inl ⟨b,o,e5,by omega⟩
  .exact .inr e5
 .exact .inr ⟨b,o,c,Z,a,d,(k b a).trans e,i⟩
theorem uQ.of {d:Nat}(h:gF W d g l):∃f,uQ W f g l/\∀b,f=some b->d<=b:=by
 rcases h with⟨a,i⟩|⟨b,o,c,Z,a,i,j,k⟩
 .exact⟨none,.inl ⟨rfl,i,none,0,a,.inr rfl⟩,fun b e=>by cases e⟩
 .exact⟨some b,.inr ⟨b,o,c,Z,rfl,a,j,k⟩,fun m e=>by grind⟩
theorem uQ.strs (h:uQ W f g l)(u:l.length<=1000)(n:∀s∈l,s.size<=8):∃a c,g= .slice a l.length c/\dH W a l.length c l:=by
 have m:∀s∈l,s.size<=maxLen:=fun s d=>by have:=n s d;unfold maxLen;omega
 rcases h with⟨p,e,q,r,j,k⟩|⟨b,o,c,Z,p,e,j,k,e5⟩
 .refine⟨q,r,by grind,rfl,by grind,by omega,m,?_⟩;rcases k with⟨b,o,e5,t⟩|e5
  .exact .inl ⟨b,o,e5,t,fun i s d=>by grind⟩
  .exact .inr ⟨e,e5⟩
 .exact⟨_,c,e,rfl,e5,by omega,m,.inl ⟨b,o,rfl,cA j,fun i s d=>(cn j _).trans (k i s d)⟩⟩
structure mX (W:World)(v:sH)(x:QS):Prop where
 eC:W.heap[v.B]?=some (Rb x.c v.kv v.pv)
 row:W.ownsRow 0 249 1 v.pv v.bs.length (v.bs.map dC)
 len:v.bs.length=x.ps.length
 ok:∀(i b:Nat) (p:PS),v.bs[i]?=some b->x.ps[i]?=some p->kO W b p
 keys:uQ W v.kb v.kv x.c.keys
theorem mX.part {v:sH}(h:mX W v x)(hb:b∈v.bs):∃(i:Nat) (p:PS),v.bs[i]?=some b/\x.ps[i]?=some p/\kO W b p:=by
 obtain⟨i,d,e⟩:=dG.1 hb;have c:v.bs[i]?=some b:=by grind
 have a:i<x.ps.length:=by rw[<-h.len];exact d
 exact⟨i,_,c,cp a,h.ok i b _ c (cp a)⟩
theorem mX.kind {v:sH}(h:mX W v x):∀b∈v.cM,∃Z T,W.heap[b]?=some (.cells Z T (0,0))/\(T=266\/T=9\/T=249\/T=253):=by
 intro b hb;rcases cQ.1 hb with rfl|hb
 .exact⟨_,_,h.eC,.inl rfl⟩
 rcases cr.1 hb with hb|hb
 .have hb:=lj hb;rcases h.keys with⟨e,_⟩|⟨l,o,c,Z,a,m,d,n⟩
  .rw[e]at hb;cases hb
  .rw[a]at hb;cases hb;exact⟨_,_,d,.inr (.inl rfl)⟩
 rcases cr.1 hb with hb|hb
 .obtain⟨f,g⟩:=cZ h.row (ia hb);exact⟨_,_,g,.inr (.inr (.inl rfl))⟩
 .obtain⟨i,p,_,_,j⟩:=h.part hb;obtain⟨Z,k⟩:=j.eC;exact⟨_,_,k,.inr (.inr (.inr rfl))⟩
theorem mX.old {v:sH}(h:mX W v x):∀b∈v.cM,b<W.heap.size:=fun b a=>by
 obtain⟨Z,T,c,_⟩:=h.kind b a
 exact cA c
theorem mX.keep {v:sH}(h:mX W v x)(c:W.heap.size<=n.heap.size)(k:∀b∈v.cM,n.heap[b]?=W.heap[b]?):mX n v x:=
 ⟨(k _ (by simp[sH.cM])).trans h.eC,dR h.row (fun g d=>k g (by simp[sH.cM,d])),h.len,fun i b p a e=>(h.ok i b p a e).keep (k b (by simp[sH.cM,List.mem_of_getElem? a])),h.keys.keep c (fun b a=>k b (by simp[sH.cM,a]))⟩
def Px (a:List sH):List Nat:=(a.map sH.cM).flatten
theorem uC {d:List sH}:b∈Px d↔∃v∈d,b∈v.cM:=by
 unfold Px;rw[kL];constructor
 .rintro ⟨l,e,a⟩;obtain⟨v,c,rfl⟩:=dA.1 e;exact⟨v,c,a⟩
 .rintro ⟨v,c,a⟩;exact⟨_,dA.2 ⟨v,c,rfl⟩,a⟩
theorem wO (v:sH)(a:List sH):Px (v::a)=v.cM++Px a:=rfl
theorem yd (a b:List sH):Px (a++b)=Px a++Px b:=by unfold Px;simp
theorem ye (v:sH):Px [v]=v.cM:=by unfold Px;simp
structure eE where
 K:Nat
 Y:Nat
 wv:Value
 ws:List sH
def eE.cM (v:eE):List Nat:=v.K::v.Y::(v.wv.ownBlock.toList++Px v.ws)
structure jt (W:World)(v:eE)(s:dE):Prop where
 eC:W.heap[v.K]?=some (Df s.d v.Y v.wv s.told)
 rd:iU W v.Y s.d s.st
 row:gW W 263 v.wv (v.ws.map (fun u=>dC u.B))
 len:v.ws.length=s.qs.length
 qu:∀(i:Nat) (u:sH) (x:QS),v.ws[i]?=some u->s.qs[i]?=some x->mX W u x
 nd:(Px v.ws).Nodup
 ok:∀x∈s.qs,oJ s.d x
section
variable {v:eE}
theorem jt.get (h:jt W v s){u:sH}(c:u∈v.ws):∃(i:Nat) (x:QS),v.ws[i]?=some u/\s.qs[i]?=some x/\mX W u x:=by
 obtain⟨i,d,e⟩:=dG.1 c;have a:i<s.qs.length:=by rw[<-h.len];exact d
 have b:v.ws[i]?=some u:=by simp_all
 exact⟨i,_,b,cp a,h.qu i _ _ b (cp a)⟩
theorem jt.Oe (h:jt W v s):∀b∈Px v.ws,∃Z T,W.heap[b]?=some (.cells Z T (0,0))/\(T=266\/T=9\/T=249\/T=253):=fun b c=>by
 obtain⟨u,d,a⟩:=uC.1 c
 obtain⟨i,x,_,_,e⟩:=h.get d
 exact e.kind b a
theorem jt.kind (h:jt W v s):∀b∈v.cM,∃Z T,W.heap[b]?=some (.cells Z T (0,0))/\(T=247\/T=195\/T=263\/T=266\/T=9\/T=249\/T=253):=by
 intro b hb;rcases cQ.1 hb with e|hb
 .rw[e];exact⟨_,_,h.eC,.inl rfl⟩
 rcases cQ.1 hb with e|hb
 .rw[e];exact⟨_,_,h.rd.at_,.inr (.inl rfl)⟩
 rcases cr.1 hb with hb|hb
 .obtain⟨a,c⟩:=h.row.eC (ia hb);exact⟨_,_,c,.inr (.inr (.inl rfl))⟩
 .obtain⟨Z,T,d,f⟩:=h.Oe b hb;exact⟨Z,T,d,.inr (.inr (.inr f))⟩
theorem jt.old (h:jt W v s):∀b∈v.cM,b<W.heap.size:=fun b a=>by
 obtain⟨Z,T,c,_⟩:=h.kind b a
 exact cA c
theorem jt.keep (h:jt W v s)(c:W.heap.size<=n.heap.size)(k:∀b∈v.cM,n.heap[b]?=W.heap[b]?):jt n v s:=
 ⟨(k _ (by simp[eE.cM])).trans h.eC,⟨(k _ (by simp[eE.cM])).trans h.rd.at_,h.rd.ok⟩,h.row.other (fun g d=>k g (by simp[eE.cM,d])),h.len,fun i u x a e=>(h.qu i u x a e).keep c (fun b f=>k b (by exact cJ _ (cJ _ (cr.2 (.inr (uC.2 ⟨u,cu a,f⟩)))))),h.nd,h.ok⟩
end
structure eN (W:World)(X sv pt win:Nat)(cv rv:Value)(cis:List eE)(cs:List dE)(vs:List Nat)(ss:List dS):Prop where
 eC:W.heap[X]?=some (DW sv pt win cv rv)
 rh:W.ownsRow 0 244 1 cv cis.length (cis.map (fun v=>dC v.K))
 ub:W.ownsRow 0 241 1 rv vs.length (vs.map dC)
 len:vs.length=sv
 sl:ss.length=sv
 s1:1<=sv
 s4:sv<=4
 p1:1<=pt
 yM:pt<=16
 w6:win<=6
 cl:cis.length=cs.length
 c4:cis.length<=4
 jV:∀(i:Nat) (v:eE) (s:dE),cis[i]?=some v->cs[i]?=some s->jt W v s
 cap:∀(i j:Nat) (v u:eE),i≠j->cis[i]?=some v->cis[j]?=some u->∀b∈v.cM,b∉u.cM
 ji:∀(j:Nat) (S:Nat) (s:dS),vs[j]?=some S->ss[j]?=some s->W.heap[S]?=some (tS s.up s.next (PJ s.held) s.je)
 NO:vs.Nodup
 wl:∀s∈cs,s.qs.length<=win
 nx:∀s∈ss,s.next<65536
def fZ (X:Nat)(r:Value)(c:List eE)(m:List Nat):List Nat:=X::(r.ownBlock.toList++((c.map eE.cM).flatten++m))
theorem Ki {c:List eE}:b∈(c.map eE.cM).flatten↔∃(i:Nat) (v:eE),c[i]?=some v/\b∈v.cM:=by
 rw[kL];constructor
 .rintro ⟨l,f,a⟩;obtain⟨v,d,rfl⟩:=dA.1 f;obtain⟨j,g,e⟩:=dG.1 d;exact⟨j,v,by grind,a⟩
 .rintro ⟨j,v,d,a⟩;exact⟨v.cM,dA.2 ⟨v,cu d,rfl⟩,a⟩
theorem eS {X:Nat}{r:Value}{c:List eE}{m:List Nat}:b∈fZ X r c m↔b=X\/r.ownBlock=some b\/(∃(i:Nat) (v:eE),c[i]?=some v/\b∈v.cM)\/b∈m:=by
 unfold fZ;rw[cQ,cr,cr,Ki];constructor
 .rintro (h|h|h|h)
  .exact .inl h
  .exact .inr (.inl (ia h))
  .exact .inr (.inr (.inl h))
  .exact .inr (.inr (.inr h))
 .rintro (h|h|h|h)
  .exact .inl h
  .exact .inr (.inl (by rw[h];simp))
  .exact .inr (.inr (.inl h))
  .exact .inr (.inr (.inr h))
section
variable {W n:World}{X q pt d:Nat}{r t:Value}{c:List eE}{cs:List dE}{m:List Nat}{l:List dS}
theorem eN.get (h:eN W X q pt d r t c cs m l){v:eE}(a:c[i]?=some v):∃s,cs[i]?=some s/\jt W v s:=by
 have b:i<cs.length:=by rw[<-h.cl];exact(cq.1 a).1
 exact⟨_,cp b,h.jV i v _ a (cp b)⟩
theorem eN.Ns (h:eN W X q pt d r t c cs m l)(a:cs[i]?=some s):∃v,c[i]?=some v/\jt W v s:=by
 have b:i<c.length:=by rw[h.cl];exact(cq.1 a).1
 exact⟨_,cp b,h.jV i _ s (cp b) a⟩
theorem eN.EC (h:eN W X q pt d r t c cs m l)(hb:b∈m):∃s:dS,W.heap[b]?=some (tS s.up s.next (PJ s.held) s.je):=by
 obtain⟨j,f,e⟩:=dG.1 hb;have a:j<l.length:=by rw[h.sl,<-h.len];exact f
 exact⟨_,h.ji j b _ (by simp_all) (cp a)⟩
theorem eN.types (h:eN W X q pt d r t c cs m l)(hb:b∈fZ X r c m):∃Z T,W.heap[b]?=some (.cells Z T (0,0))/\(T=240\/T=244\/T=243\/T=247\/T=195\/T=263\/T=266\/T=9\/T=249\/T=253):=by
 rcases eS.1 hb with e|e|⟨i,v,g,e⟩|e
 .rw[e];exact⟨_,_,h.eC,.inl rfl⟩
 .obtain⟨j,k⟩:=cZ h.rh e;exact⟨_,_,k,.inr (.inl rfl)⟩
 .obtain⟨s,o,a⟩:=h.get g;obtain⟨Z,T,f,n⟩:=a.kind b e;exact⟨Z,T,f,.inr (.inr (.inr n))⟩
 .obtain⟨s,f⟩:=h.EC e;exact⟨_,_,f,.inr (.inr (.inl rfl))⟩
theorem eN.old (h:eN W X q pt d r t c cs m l)(hb:b∈fZ X r c m):b<W.heap.size:=by
 obtain⟨Z,T,a,_⟩:=h.types hb;exact cA a
theorem eN.keep (h:eN W X q pt d r t c cs m l)(o:W.heap.size<=n.heap.size)(k:∀b∈fZ X r c m,n.heap[b]?=W.heap[b]?)(p:iT [241] W n):eN n X q pt d r t c cs m l:=
 ⟨(k _ (eS.2 (.inl rfl))).trans h.eC,dR h.rh (fun g u=>k g (eS.2 (.inr (.inl u)))),p.row (by simp) h.ub,h.len,h.sl,h.s1,h.s4,h.p1,h.yM,h.w6,h.cl,h.c4,fun i v s e a=>(h.jV i v s e a).keep o (fun b w=>k b (eS.2 (.inr (.inr (.inl ⟨i,v,e,w⟩))))),h.cap,fun j S s f a=>(k S (eS.2 (.inr (.inr (.inr (cu f)))))).trans (h.ji j S s f a),h.NO,h.wl,h.nx⟩
theorem eN.below (h:eN W X q pt d r t c cs m l)(hb:Below W.heap.size W n):eN n X q pt d r t c cs m l:=h.keep hb.size (fun b a=>hb.block b (h.old a)) (iT.below hb)
theorem eN.Qe (h:eN W X q pt d r t c cs m l){v v':eE}{s':dE}(B:c[i]?=some v)(k:eH v.cM W n)(Q:jt n v' s')(R:v'.K=v.K)(L:dB W v.cM v'.cM)(U:s'.qs.length<=d):eN n X q pt d r t (c.set i v') (cs.set i s') m l/\dB W (fZ X r c m) (fZ X r (c.set i v') m):=by
 have F:=(cq.1 B).1;have H:i<cs.length:=by rw[<-h.cl];exact F
 obtain⟨s0,V,I⟩:=h.get B;have J:(c.set i v').map (fun v=>dC v.K)=c.map (fun v=>dC v.K):=by
  apply fS;intro j;rw[cL,cL,dD];split
  .rename_i e;subst e;rw[B];simp[R]
  .rfl
 have C:∀(j:Nat) (u:eE),c[j]?=some u->∀b∈u.cM,b<W.heap.size:=fun j u g b p=>h.old (eS.2 (.inr (.inr (.inl ⟨j,u,g,p⟩))))
 have K:∀w:List Nat,247∉w->195∉w->263∉w->266∉w->9∉w->249∉w->253∉w->iT w W n:=fun w Y a2 a3 a4 a5 a6 a7=>iT.mQ k (fun b T Z f hm P D=>by
  obtain⟨Z',T',h4,h5⟩:=I.kind b hm;rw[h4]at P;obtain⟨_,rfl,_⟩:=P;rcases h5 with rfl|rfl|rfl|rfl|rfl|rfl|rfl
  .exact Y D
  .exact a2 D
  .exact a3 D
  .exact a4 D
  .exact a5 D
  .exact a6 D
  .exact a7 D)
 have p:=h.eC;refine⟨⟨((K [240] (by simp) (by simp) (by simp) (by simp) (by simp) (by simp) (by simp)) _ _ _ _ p (by simp)).trans p,?_,(K [241] (by simp) (by simp) (by simp) (by simp) (by simp) (by simp) (by simp)).row (by simp) h.ub,h.len,h.sl,h.s1,h.s4,h.p1,h.yM,h.w6,by simp[h.cl],by rw[dj];exact h.c4,fun j u s g A=>?_,fun a j M N x h1 o b y z=>?_,fun j S s hS A=>?_,h.NO,fun s A=>?_,h.nx⟩,fun b p=>?_⟩
 .rw[J,dj];exact(K [244] (by simp) (by simp) (by simp) (by simp) (by simp) (by simp) (by simp)).row (by simp) h.rh
 .by_cases E:i=j
  .subst E;rw[cK F]at g;rw[cK H]at A;cases g;cases A;exact Q
  .rw[de E]at g A;exact(h.jV j u s g A).keep k.size (fun b p=>k.block b (C j u g b p) (h.cap j i u v (fun e=>E e.symm) g B b p))
 .rw[dD]at h1 o;split at h1
  .rename_i e1;subst e1;split at o
   .rename_i O;exact x O
   .simp at h1;subst h1;rcases L b y with h3|h3
    .exact h.cap i j v N x B o b h3 z
    .have:=C j N o b z;omega
  .split at o
   .rename_i O;subst O;simp at o;subst o;rcases L b z with h3|h3
    .exact h.cap a i M v x h1 B b y h3
    .have:=C a M h1 b y;omega
   .exact h.cap a j M N x h1 o b y z
 .have h1:=h.ji j S s hS A;have o:=h1;exact((K [243] (by simp) (by simp) (by simp) (by simp) (by simp) (by simp) (by simp)) _ _ _ _ o (by simp)).trans h1
 .rcases da A with h1|h1
  .exact h.wl s h1
  .rw[h1];exact U
 .rcases eS.1 p with e|e|⟨j,u,g,e⟩|e
  .exact .inl (eS.2 (.inl e))
  .exact .inl (eS.2 (.inr (.inl e)))
  .rw[dD]at g;split at g
   .simp at g;subst g;rcases L b e with h3|h3
    .exact .inl (eS.2 (.inr (.inr (.inl ⟨i,v,B,h3⟩))))
    .exact .inr h3
   .exact .inl (eS.2 (.inr (.inr (.inl ⟨j,u,g,e⟩))))
  .exact .inl (eS.2 (.inr (.inr (.inr e))))
theorem eN.NR {a:List dS}(h:eN W X q pt d r t c cs m l)(k:eH m W n)(A:∀(j:Nat) (S:Nat) (s:dS),m[j]?=some S->a[j]?=some s->n.heap[S]?=some (tS s.up s.next (PJ s.held) s.je))(B:a.length=l.length)(o:∀s∈a,s.next<65536):eN n X q pt d r t c cs m a:=by
 have e:∀p:List Nat,243∉p->iT p W n:=fun p u=>iT.mQ k (fun b T Z f C y D=>by
  obtain⟨s,w⟩:=h.EC C;rw[w]at y;obtain⟨_,rfl,_⟩:=y;exact u D)
 have g:=h.eC;refine⟨((e [240] (by simp)) _ _ _ _ g (by simp)).trans g,(e [244] (by simp)).row (by simp) h.rh,(e [241] (by simp)).row (by simp) h.ub,h.len,B.trans h.sl,h.s1,h.s4,h.p1,h.yM,h.w6,h.cl,h.c4,fun i v s E x=>?_,h.cap,A,h.NO,h.wl,o⟩;have z:=h.jV i v s E x;refine z.keep k.size (fun b g=>?_);obtain⟨Z,T,u,F⟩:=z.kind b g;exact(e [T] (by grind)) b T Z _ u (by simp)
end
variable {i:Nat}
def wL (a:List eE)(cs:List dE)(t:Option (Nat×Nat×Nat))(e:Ending):Prop:=match t with
 |none=>e= .returned (.tuple #[.pointer none,.pointer none,.int .i64 0])
 |some (i,k,m)=>∃v u b,a[i]?=some v/\v.ws[k]?=some u/\u.bs[m]?=some b/\e= .returned (.tuple #[.pointer (some ⟨v.K,0,none⟩),.pointer (some ⟨b,0,none⟩),.int .i64 (mU cs i k)])
theorem drop_cons {a:Type}{l:List a}{x:a}(h:l[i]?=some x):l.drop i=x::l.drop (i+1):=by
 obtain⟨b,e⟩:=cq.1 h;rw[gX b,e]
theorem vY {a:Type}{l:List a}(h:l.length<=i):l.drop i=[]:=List.drop_eq_nil_iff.2 h
theorem kO.cells {W:World}{b:Nat}{p:PS}(h:kO W b p)(o id:Nat):∃(e f g i:Nat) (d:ByteArray),W.heap[b]?=some (xe e f g i d)/\(Bv o id p=true↔(e=o/\f=id/\g=0)):=by
 cases p using PS.el with
 |un=>exact h.elim
 |op a c=>exact⟨a,c,0,0,_,h,by simp[Bv]⟩
 |an s v=>
  obtain⟨a,c,h⟩:=h;exact⟨a,c,1,s,v,h,by simp[Bv]⟩
 |fl=>
  obtain⟨a,c,h⟩:=h;exact⟨a,c,2,0,_,h,by simp[Bv]⟩
theorem Gc {w:World}{X sv pt ap:Nat}{cv rv:Value}{a:List eE}{cs:List dE}{vs:List Nat}{ss:List dS}(h:eN w X sv pt ap cv rv a cs vs ss)(o id:Nat):Calls prog 153 #[.pointer (some ⟨X,0,none⟩),.int .i64 (o:Int),.int .i64 (id:Int)] w fun e w'=>wL a cs (mR o id cs 0) e/\∃q,w'=w.drewN q:=by
 obtain⟨ca,cc,rfl⟩:=jr h.rh;have D:=h.eC;unfold DW at D;have c3:=cn D 3;simp at c3;have hn:=h.c4;have HC:Hid (∀(j:Nat) (v:eE),a[j]?=some v->∃g H,Value.slice ca a.length cc= .slice (some ⟨g,0,none⟩) a.length H/\g<w.heap.size/\w.cell? ⟨g,j,none⟩=some (.pointer (some ⟨v.K,0,none⟩))):=fun j v L=>pE h.rh (by simp) (by rw[cL,L];rfl)
 have HK:Hid (∀(j:Nat) (v:eE),a[j]?=some v->∃s,cs[j]?=some s/\jt w v s/\s.qs.length<=6):=fun j v L=>by
  obtain⟨s,hs,d⟩:=h.get L;have h1:=h.wl s (cu hs);have h2:=h.w6;exact⟨s,hs,d,by omega⟩
 have aq:Hid (cs.length=a.length):=h.cl.symm;clear h D;generalize U:a.length=n at*;have HN:=cb U;clear U;generalize V:mR o id cs 0=S;have ar:=cb V;clear V;go_wp2;go_loop [9,10,11,12,13] (fun i _ _ _ _=>∃j:Nat,i= .int .i64 (j:Int)/\j<=n/\Hid (mR o id (cs.drop j) j=S)) (fun i _ _ _ _=>n-(intOf i).toNat)
 case atStart=>exact⟨0,rfl,cG _,ar⟩
 case round=>
  obtain⟨j,rfl,hj,W⟩:=hrel;by_cases au:j<n
  .have Y:(j:Int)<(n:Int):=by omega
   obtain⟨v,L⟩:∃v,a[j]?=some v:=⟨_,cp (by rw[HN.out];exact au)⟩
   obtain⟨g,H,av,aL,aM⟩:=HC.out j v L;cases av;obtain⟨M,N,d,Z⟩:=HK.out j v L;have y:=W.out;rw[drop_cons N]at y;unfold mR at y;have aa:=cb y;have HV:=cb (cd L N);have hK:=d.eC;unfold Df at hK;have k2:=cn hK 2;simp at k2;have aN:=cA hK;obtain⟨wa,wc,I⟩:=d.row.len;rw[dp]at I;rw[I]at k2;have ab:Hid (gW w 263 (.slice wa v.ws.length wc) (v.ws.map (fun u=>dC u.B))):=by rw[<-I];exact d.row
   have aw:Hid (∀(k:Nat) (u:sH),v.ws[k]?=some u->∃x,M.qs[k]?=some x/\mX w u x/\x.ps.length<=4):=fun k u O=>by
    have P:k<M.qs.length:=by rw[<-d.len];exact(cq.1 O).1
    have T:=d.ok _ (List.getElem_mem P);have:=T.len;have:=T.w.cm.k4;exact⟨_,cp P,d.qu k u _ O (cp P),by omega⟩
   have ax:Hid (M.qs.length=v.ws.length):=d.len.symm;have aO:v.ws.length<=6:=by rw[d.len];exact Z
   clear d hK I Z L N y;generalize ac:v.ws.length=m at*;have HM:=cb ac;clear ac;generalize ad:v.K=K at*;have ay:=cb ad;clear ad;go_wp2;go_loop [11,12,13] (fun k _ _=>∃q:Nat,k= .int .i64 (q:Int)/\q<=m/\Hid (sQ o id (M.qs.drop q) q=sQ o id M.qs 0)) (fun k _ _=>m-(intOf k).toNat)
   case atStart=>exact⟨0,rfl,cG _,rfl⟩
   case round=>
    obtain⟨q,rfl,hq,ae⟩:=hrel;by_cases az:q<m
    .have af:(q:Int)<(m:Int):=by omega
     obtain⟨u,O⟩:∃u,v.ws[q]?=some u:=⟨_,cp (by rw[HM.out];exact az)⟩
     obtain⟨g2,aP,c2,ag,aA,aH,ah⟩:=ab.out.at_ (i:=q) (x:=dC u.B) (by rw[cL,O];rfl);rw[dp,HM.out]at ag aA;cases ag;unfold dC at ah;obtain⟨x,T,f,ai⟩:=aw.out q u O;have z:=ae.out;rw[drop_cons T]at z;conv at z=>lhs;unfold sQ
     have aj:=cb z;have HU:=cb (cd O T);have hB:=f.eC;unfold Rb at hB;have b0:=cn hB 0;have b6:=cn hB 6;simp at b0 b6;have aQ:=cA hB;obtain⟨pa,pc,Q⟩:=jr f.row;rw[Q]at b6;have aB:Hid (∀(r:Nat) (b:Nat),u.bs[r]?=some b->(∃g H,Value.slice pa u.bs.length pc= .slice (some ⟨g,0,none⟩) u.bs.length H/\g<w.heap.size/\w.cell? ⟨g,r,none⟩=some (.pointer (some ⟨b,0,none⟩)))/\∃p,x.ps[r]?=some p/\kO w b p):=fun r b D=>⟨by
      have:=pE f.row (by simp) (i:=r) (x:=dC b) (by rw[cL,D];rfl);rw[Q]at this;exact this,by
      have ak:r<x.ps.length:=by rw[<-f.len];exact(cq.1 D).1
      exact⟨_,cp ak,f.ok r b _ D (cp ak)⟩⟩
     have aC:Hid (x.ps.length=u.bs.length):=f.len.symm;have aR:u.bs.length<=4:=by rw[f.len];exact ai
     clear f hB Q ai O T z;generalize al:u.bs.length=pn at*;have HP:=cb al;clear al;generalize aD:u.B=B at*;clear aD;generalize am:x.c.kind=ck at*;have aE:=cb am;clear am;go_wp2;go_loop [12,13] (fun k _=>∃r:Nat,k= .int .i64 (r:Int)/\r<=pn/\Hid (uW o id (x.ps.drop r) r=uW o id x.ps 0)) (fun k _=>pn-(intOf k).toNat)
     case atStart=>exact⟨0,rfl,cG _,rfl⟩
     case round=>
      obtain⟨r,rfl,hr,an⟩:=hrel;by_cases aF:r<pn
      .have ao:(r:Int)<(pn:Int):=by omega
       obtain⟨b,D⟩:∃b,u.bs[r]?=some b:=⟨_,cp (by rw[HP.out];exact aF)⟩
       obtain⟨⟨g3,aS,aG,aI,aJ⟩,p,hp,F⟩:=aB.out r b D;cases aG;obtain⟨po,pi,st,kd,aT,l,A⟩:=F.cells o id;have c:=an.out;rw[drop_cons hp]at c;conv at c=>lhs;unfold uW
       unfold xe at l;have p0:=cn l 0;have p1:=cn l 1;have p2:=cn l 2;simp at p0 p1 p2;have aK:=cA l;by_cases C:Bv o id p=true
       .obtain⟨e1,e2,e3⟩:=A.1 C;subst e1 e2 e3;rw[cN C]at c;have HF:Hid (wL a cs S (.returned (.tuple #[.pointer (some ⟨K,0,none⟩),.pointer (some ⟨b,0,none⟩),.int .i64 ck]))):=by
         have E:=aj.out;rw[<-c]at E;simp only at E;have J:=aa.out;rw[<-E]at J;simp only at J;show wL a cs S _;rw[<-J];refine⟨v,u,b,HV.out.1,HU.out.1,D,?_⟩;have ek:mU cs j q=ck:=by
          unfold mU;rw[HV.out.2];simp only
          rw[HU.out.2];exact aE.out
         rw[ay.out,ek]
        clear F l hp D C A c;go_wp2;go_quiet (fail)
        go_wp2;refine cE (v:= .tuple #[.pointer (some ⟨K,0,none⟩),.pointer (some ⟨b,0,none⟩),.int .i64 ck]) (by simp[results,results153,go_sem]) rfl ⟨HF.out,_,rfl⟩
       .rw[cD C]at c;have t:=cb c;have R:¬(po=o/\pi=id/\st=0):=fun e=>C (A.2 e)
        clear F l hp D C A c;by_cases ho:po=o
        .subst ho;by_cases hi:pi=id
         .subst hi;have aU:¬(st:Int)=0:=by omega
          clear R;go_wp2;go_round
          case rel=>exact⟨r+1,by go_num,by omega,t⟩
          case measure=>simp[intOf];omega
         .have aV:¬(pi:Int)=(id:Int):=by omega
          clear R;go_wp2;go_round
          case rel=>exact⟨r+1,by go_num,by omega,t⟩
          case measure=>simp[intOf];omega
        .have aW:¬(po:Int)=(o:Int):=by omega
         clear R;go_wp2;go_round
         case rel=>exact⟨r+1,by go_num,by omega,t⟩
         case measure=>simp[intOf];omega
      .have ao:¬(r:Int)<(pn:Int):=by omega
       have t:Hid (sQ o id (M.qs.drop (q+1)) (q+1)=sQ o id M.qs 0):=by
        have E:=an.out;rw[vY (by rw[aC.out];omega)]at E;have J:=aj.out;rw[<-E]at J;exact J
       go_wp2;go_round
       case rel=>exact⟨q+1,by go_num,by omega,t⟩
       case measure=>simp[intOf];omega
    .have af:¬(q:Int)<(m:Int):=by omega
     have t:Hid (mR o id (cs.drop (j+1)) (j+1)=S):=by
      have E:=ae.out;rw[vY (by rw[ax.out];omega)]at E;have J:=aa.out;rw[<-E]at J;exact J
     go_wp2;go_round
     case rel=>exact⟨j+1,by go_num,by omega,t⟩
     case measure=>simp[intOf];omega
  .have Y:¬(j:Int)<(n:Int):=by omega
   have HF:Hid (wL a cs S (.returned (.tuple #[.pointer none,.pointer none,.int .i64 0]))):=by
    have E:=W.out;rw[vY (by rw[aq.out];omega)]at E;show wL a cs S _;rw[<-E];rfl
   go_wp2;refine cE (v:= .tuple #[.pointer none,.pointer none,.int .i64 0]) (by simp[results,results153,go_sem]) rfl ⟨HF.out,0,rfl⟩
variable {cs:List dE}
theorem Am (o id:Nat):mR o id cs 0=none↔id∉iD o (wo cs):=by
 rw[wj];constructor
 .intro h c;obtain⟨s,d,g⟩:=iB.1 c;obtain⟨x,e,i⟩:=iB.1 g;obtain⟨p,k,f⟩:=List.mem_filterMap.1 i;cases p using PS.el with
  |op a b=>
   obtain⟨rfl,rfl⟩:=f;exact yg _ _ _ _ h s d x e _ k rfl
  |_=>simp at f
 .intro h;cases l:mR o id cs 0 with
  |none=>rfl
  |some z=>
   exfalso;obtain⟨j,s,x,_,d,e,c⟩:=rQ _ _ _ _ _ _ _ l;refine h ?_;refine iB.2 ⟨s,cu d,?_⟩;refine iB.2 ⟨x,cu e,?_⟩;exact List.mem_filterMap.2 ⟨_,cu c,rfl⟩
theorem NM {w:World}{X x pt k:Nat}{y A:Value}{f:List eE}{B:List Nat}{C:List dS}(h:eN w X x pt k y A f cs B C)(o d:Nat)(D:d<65536)(N:(iD o (wo cs)).length<=1000):Calls prog 175 #[.pointer (some ⟨X,0,none⟩),.int .i64 (o:Int),.int .i64 (d:Int)] w fun e w'=>e= .returned (.int .i64 (((d+kX d (iD o (wo cs))) % 65536:Nat):Int))/\∃q,w'=w.drewN q:=by
 obtain⟨f1,f2,f3⟩:=oL d (iD o (wo cs)) (by omega);have r:Hid (∀(q id:Nat),Calls prog 153 #[.pointer (some ⟨X,0,none⟩),.int .i64 (o:Int),.int .i64 (id:Int)] (w.drewN q) fun e w'=>wL f cs (mR o id cs 0) e/\∃l,w'=w.drewN l):=fun q id=>by
  refine(Gc (h.below (cV (ct _ _) q)) o id).mono ?_;rintro e w' ⟨E,l,F⟩;refine⟨E,q+l,?_⟩;rw[F,World.drewN_drewN]
 have s:=cb (cd f2 f3);generalize kX d (iD o (wo cs))=J at*;have H:(d+0) % 65536=d:=by omega
 have O:J<=1000:=by omega
 go_wp2;go_loopw [2,7,8,9] (fun i _ _ _ wr=>∃j:Nat,j<=J/\i= .int .i64 (((d+j) % 65536:Nat):Int)/\∃q,wr=w.drewN q) (fun i _ _ _ _=>(65536+d+J-(intOf i).toNat) % 65536)
 case atStart=>exact⟨0,cG _,by rw[H],0,rfl⟩
 case round=>
  obtain⟨j,P,rfl,q,rfl⟩:=hrel;obtain⟨id,hid⟩:∃id,(d+j) % 65536=id:=⟨_,rfl⟩
  have a:=cb hid;rw[hid];by_cases g:j=J
  .have m:=(Am o id).2 (by rw[<-a.out,g];exact s.out.1);have c:=r.out q id;rw[m]at c;unfold wL at c;have c:=cb c;go_wp2_with fail
   refine c.out.mono ?_;rintro e I ⟨rfl,n,rfl⟩;go_wp2;go_ret;refine⟨?_,n,rfl⟩;rw[<-g,a.out];rfl
  .have p:j<J:=by omega
   obtain⟨z,K⟩:∃z,mR o id cs 0=some z:=by
    cases L:mR o id cs 0 with
    |none=>exact absurd (s.out.2 j p) (by rw[a.out];exact(Am o id).1 L)
    |some z=>exact⟨z,rfl⟩
   have c:=r.out q id;rw[K]at c;unfold wL at c;simp only at c;have c:=cb c;have t:id<65536:=by have:=a.out;omega
   have I:IntKind.i64.wrap ((id:Int)+1)=(id:Int)+1:=eM _ (by omega) (by omega);have Q:((id:Int)+1).tmod 65536=(((id+1) % 65536:Nat):Int):=by
    rw[show(id:Int)+1=((id+1:Nat):Int)by omega];rfl
   go_wp2_with fail
   refine c.out.mono ?_;rintro e M ⟨⟨v,u,b,_,_,_,rfl⟩,n,rfl⟩;go_wp2;go_roundw;case rel=>
    refine⟨j+1,by omega,?_,n,rfl⟩;have:=a.out;congr 2;first|omega|(simp;omega)
   case measure=>
    have:=a.out;simp[intOf];omega
variable {a pt X f P:Nat}{w:World}{n m:Value}{d:List eE}{cs:List dE}{k:List Nat}{l:List dS}
def pA (w w':World)(X a pt f:Nat)(n m:Value)(d:List eE)(cs:List dE)(k:List Nat)(b:List dS)(p:PS)(P:Nat):Prop:=
 w.heap.size<=P/\eN w' X a pt f n m d cs k b/\kO w' P p/\eH k w w'
def oX (a pt:Nat)(k:Int)(c:ByteArray)(d:List (Nat×Nat))(l:List dS)(b:ByteArray):List dS×PS:=
 match l[fE a pt b]?with
 |none=>(l,.fl)
 |some s=>if s.up=true then
  (l.set (fE a pt b) {s with next:=(s.next+kX s.next (iD (fE a pt b) d)+1) % 65536,je:=s.je++(Py k b c ((s.next+kX s.next (iD (fE a pt b) d)) % 65536)).data.toList},
   .op (fE a pt b) ((s.next+kX s.next (iD (fE a pt b) d)) % 65536))
  else(l,.fl)
theorem IC {n:Nat}{k:Int}{e:ByteArray}{f:List (Nat×Nat)}{c:List dS×List PS}{b:ByteArray}(hb:xI n c)(i:n<=1000)(j:f.length<=1000)(l:c.2.length<=1000)(g:∀s∈c.1,s.next<65536):qw a pt k e f c b=((oX a pt k e f c.1 b).1,c.2++[(oX a pt k e f c.1 b).2]):=by
 unfold qw oX;cases h:c.1[fE a pt b]?with
 |none=>rfl
 |some s=>
  simp only
  by_cases d:s.up=true
  .rw[cN d,cN d];have m:=Qc (fE a pt b) f;have o:=Qc (fE a pt b) (mM c.2);have p:=vu c.2;rw[GX (g s (cu h)) (by omega) (by omega) (hb.ids i h)]
  .rw[cD d,cD d]
theorem pA.wK {w':World}{p:PS}(h:pA w.drew w' X a pt f n m d cs k l p P):pA w w' X a pt f n m d cs k l p P:=by
 obtain⟨b,c,e,g⟩:=h;exact⟨b,c,e,eH.wK g⟩
theorem IF {g:World}(h:eN w X a pt f n m d cs k l){o S id:Nat}{s:dS}{t:List UInt8}(p:k[o]?=some S)(D:l[o]?=some s)(E:w.heap.size<=P)(i:P≠S)(F:eH [S] w g)(r:Int)(H:g.heap[S]?=some (tS s.up r (PJ s.held) s.je))(I:g.heap[P]?=some (xe o id 0 0 ⟨#[]⟩))(q:Value)(hid:id<65536)(v:q= .int .i64 (((id+1) % 65536:Nat):Int)):pA w ((g.setCell ⟨S,3,none⟩ (.string (PJ t))).setCell ⟨S,1,none⟩ q) X a pt f n m d cs k (l.set o {s with next:=(id+1) % 65536,je:=t}) (.op o id) P:=by
 have J:=(cq.1 D).1;have y:eH [S] w ((g.setCell ⟨S,3,none⟩ (.string (PJ t))).setCell ⟨S,1,none⟩ q):=(F.set (.inl (by simp)) _).set (.inl (by simp)) _;have K:((g.setCell ⟨S,3,none⟩ (.string (PJ t))).setCell ⟨S,1,none⟩ q).heap[S]?=some (tS s.up (((id+1) % 65536:Nat):Int) (PJ s.held) t):=by
  subst v;exact(dh (i:=1) (dh (i:=3) H _) _).trans rfl
 have z:=y.more (fun x A=>by simp at A;rw[A];exact cu p);refine⟨E,h.NR z (fun j B L c b=>?_) (by simp) (fun u M=>?_),fV (fV I i) i,z⟩
 .rw[dD]at b;split at b
  .rename_i e;subst e;simp at b;subst b;rw[p]at c;cases c;exact K
  .rename_i e;have h1:=h.ji j B L c b;refine(y.block B (cA h1) (fun C=>?_)).trans h1;simp at C;subst C;exact e ((PV (cq.1 p).1 h.NO).1 (p.trans c.symm))
 .rcases da M with h1|h1
  .exact h.nx u h1
  .rw[h1];exact Nat.mod_lt _ (by decide)
theorem My (h:eN w X a pt f n m d cs k l)(hl:(wo cs).length<=1000)(c:iO)(N:Value)(j:ByteArray)(E:fp c.kind [j] c.val=true)(Y:∀u∈l,u.je.length<=100000000000):Calls prog 167 #[.pointer (some ⟨X,0,none⟩),iW c N,.string j] w fun e w'=>∃P,e= .returned (.pointer (some ⟨P,0,none⟩))/\pA w w' X a pt f n m d cs k (oX a pt c.kind c.val (wo cs) l j).1 (oX a pt c.kind c.val (wo cs) l j).2 P:=by
 obtain⟨Z,_,_,z,ai⟩:=xC E;have z:=z j (by simp);have ho:=wu a pt j h.s1;unfold oX;generalize ax:fE a pt j=o at*;obtain⟨S,hS⟩:∃S,k[o]?=some S:=⟨_,cp (by rw[h.len];exact ho)⟩
 obtain⟨s,hs⟩:∃s,l[o]?=some s:=⟨_,cp (by rw[h.sl];exact ho)⟩
 simp only[hs]
 have F:=h.ji o S s hS hs;have ay:=h.nx s (cu hs);have aR:=Y s (cu hs);have aa:Hid (∀W,Calls prog 138 #[.int .i64 (a:Int),.int .i64 (pt:Int),.string j] W fun e w'=>e= .returned (.int .i64 ((o:Nat):Int))/\∃q,w'=W.drewN q):=fun W=>by
  have:=vE a pt j W h.s1 h.s4 h.p1 h.yM (by unfold maxLen;omega);rw[ax]at this;exact this
 obtain⟨g,aS,H,az,aj⟩:=pE h.ub (by simp) (i:=o) (x:=dC S) (by rw[cL,hS];rfl);unfold dC at aj;have O:=h.eC;unfold DW at O;have x0:=cn O 0;have x1:=cn O 1;have x4:=cn O 4;simp at x0 x1 x4;rw[H,h.len]at x4;have aA:=cA O;have p:=F;unfold tS at p;have s0:=cn p 0;have s1:=cn p 1;have s3:=cn p 3;simp at s0 s1 s3;have sf:=dN p;have I:=cA p;have aB:¬S=X:=fun e=>by rw[e,O]at p;cases p
 have aC:¬S=g:=fun e=>by
  obtain⟨aT,hc⟩:=cZ h.ub (v:=m) (by rw[H];rfl);rw[<-e,p]at hc;cases hc
 unfold iW;by_cases J:s.up=true
 .rw[cN J];simp only
  rw[J]at s0;have Q:=Qc o (wo cs);have ab:Hid (∀W,Below w.heap.size w W->Calls prog 175 #[.pointer (some ⟨X,0,none⟩),.int .i64 (o:Int),.int .i64 (s.next:Int)] W fun e w'=>e= .returned (.int .i64 (((s.next+kX s.next (iD o (wo cs))) % 65536:Nat):Int))/\∃q,w'=W.drewN q):=fun W hW=>NM (h.below hW) o s.next ay (by omega)
  obtain⟨id,hid⟩:∃id,(s.next+kX s.next (iD o (wo cs))) % 65536=id:=⟨_,rfl⟩
  have R:(s.next+kX s.next (iD o (wo cs))+1) % 65536=(id+1) % 65536:=by omega
  have Q:id<65536:=by omega
  rw[hid]at ab⊢;rw[R];have aP:(Py c.kind j c.val id).size<=1000:=by
   have:=za c.kind j c.val id z ai;rw[gz]at this;exact this
  have aD:Hid (∀(W:World) (b:Nat),W.heap[b]?=some (.cells #[.string j] 9 (0,0))->Calls prog 101 #[.int .i64 2,.agg #[.int .i64 c.kind,.slice (some ⟨b,0,none⟩) 1 1,.string c.val,.string ⟨#[]⟩,.bool false,.int .i64 0],.int .i64 (id:Int)] W fun e w'=>e= .returned (.tuple #[.string (Py c.kind j c.val id),.int .i64 0])/\Below W.heap.size W w'):=fun W b A=>by
   have aE:dH W (some ⟨b,0,none⟩) 1 1 [j]:=⟨rfl,PC _,by simp,by simp;unfold maxLen;omega,.inl ⟨b,0,rfl,cA A,fun i x hx=>by
    cases i with
    |zero=>simp at hx;rw[<-hx];exact cn A 0
    |succ i=>simp at hx⟩⟩
   have aF:c.val.size<=maxLen:=by unfold maxLen;omega
   have aG:gI c.kind 1 (id:Int)=true:=by
    unfold gI;simp;omega
   rw[<-Gm];exact Ri c.kind Z b 0 1 j c.val ⟨#[]⟩ false 0 (id:Int) W aE aF E aG (cA A) (PC _) (cn A 0)
  have r:Hid (∀(D:World) (P:Nat) (v1:Value),w.heap.size<=P->P≠S->eH [S] w D->D.heap[S]?=some (tS s.up (id:Int) (PJ s.held) s.je)->D.heap[P]?=some (xe o id 0 0 ⟨#[]⟩)->v1= .int .i64 (((id+1) % 65536:Nat):Int)->pA w ((D.setCell ⟨S,3,none⟩ (.string (PJ (s.je++(Py c.kind j c.val id).data.toList)))).setCell ⟨S,1,none⟩ v1) X a pt f n m d cs k (l.set o {s with next:=(id+1) % 65536,je:=s.je++(Py c.kind j c.val id).data.toList}) (.op o id) P):=fun D P v1 h1 h2 h3 h4 h5 h6=>IF h hS hs h1 h2 h3 _ h4 h5 v1 Q h6
  have aH:=cb (vt s.je (Py c.kind j c.val id));have aI:=cb F;have aU:=lr s.je;clear h Y E F p O hS hs z H Z hid R hl;generalize aJ:Py c.kind j c.val id=aV at*;generalize EF:PJ s.je=sB at*;go_enter func167,ntmps167;go_wp2_with fail
  go_quiet ((go_at_call 138;exact Calls.quiet_of (aa.out _)))
  go_wp2_with fail
  go_at_call 175;refine(ab.out _ ?_).mono ?_
  .exact(cV cU _).alloc (by simp) _
  rintro e w1 ⟨rfl,q1,rfl⟩;have ak:¬S=w.heap.size+1:=by omega
  have T:¬w.heap.size+1=S:=by omega
  have al:¬w.heap.size=S:=by omega
  have am:S<w.heap.size+1:=by omega
  clear ab aa;go_wp2_with fail
  have hA:(w.alloc (.cells #[.int .i64 c.kind,N,.string c.val,.string c.word,.bool c.fatal,.int .i64 c.id] 36)).heap[w.heap.size]?=some (.cells #[.int .i64 c.kind,N,.string c.val,.string c.word,.bool c.fatal,.int .i64 c.id] 36 (0,0)):=du w _;have an:(w.alloc (.cells #[.int .i64 c.kind,N,.string c.val,.string c.word,.bool c.fatal,.int .i64 c.id] 36)).heap[S]?=some (tS s.up s.next (PJ s.held) s.je):=dI aI.out _;have v:eH [S] w (w.alloc (.cells #[.int .i64 c.kind,N,.string c.val,.string c.word,.bool c.fatal,.int .i64 c.id] 36)):=eH.dP cU;have ao:(w.alloc (.cells #[.int .i64 c.kind,N,.string c.val,.string c.word,.bool c.fatal,.int .i64 c.id] 36)).heap.size=w.heap.size+1:=by simp
  generalize w.alloc (.cells #[.int .i64 c.kind,N,.string c.val,.string c.word,.bool c.fatal,.int .i64 c.id] 36)=K at*;have aK:¬w.heap.size=w.heap.size+1:=by omega
  obtain⟨y,ac⟩:∃y,y=Obj.cells #[.int .i64 (o:Int),.int .i64 0,.int .i64 0,.int .i64 0,.string ⟨#[]⟩] 253:=⟨_,rfl⟩
  rw[<-ac];have L:(((((K.drewN nq).alloc y).drewN q1).setCell ⟨S,1,none⟩ (.int .i64 (id:Int))).setCell ⟨w.heap.size+1,1,none⟩ (.int .i64 (id:Int))).heap[w.heap.size]?=some (.cells #[.int .i64 c.kind,N,.string c.val,.string c.word,.bool c.fatal,.int .i64 c.id] 36 (0,0)):=fV (p:=⟨w.heap.size+1,1,none⟩) (fV (p:=⟨S,1,none⟩) (iL (dI (iL hA _) _) _) al) aK;have M:(((((K.drewN nq).alloc y).drewN q1).setCell ⟨S,1,none⟩ (.int .i64 (id:Int))).setCell ⟨w.heap.size+1,1,none⟩ (.int .i64 (id:Int))).heap[S]?=some (tS s.up id (PJ s.held) s.je):=fV (p:=⟨w.heap.size+1,1,none⟩) ((dh (i:=1) (iL (dI (iL an nq) y) q1) _).trans rfl) ak;have ad:((K.drewN nq).alloc y).heap[w.heap.size+1]?=some y:=fD (by simp[ao])
  have ae:(((((K.drewN nq).alloc y).drewN q1).setCell ⟨S,1,none⟩ (.int .i64 (id:Int))).setCell ⟨w.heap.size+1,1,none⟩ (.int .i64 (id:Int))).heap[w.heap.size+1]?=some (xe o id 0 0 ⟨#[]⟩):=by
   rw[ac]at ad⊢;exact(dh (i:=1) (fV (p:=⟨S,1,none⟩) (iL ad _) T) _).trans rfl
  have ap:eH [S] w (((((K.drewN nq).alloc y).drewN q1).setCell ⟨S,1,none⟩ (.int .i64 (id:Int))).setCell ⟨w.heap.size+1,1,none⟩ (.int .i64 (id:Int))):=by
   have k1:eH [S] w (K.drewN nq):=⟨v.os,v.tape,v.output,v.size,v.block⟩
   have k2:eH [S] w ((K.drewN nq).alloc y):=k1.trans (eH.dP (M:=[]) cU) (fun b A=>by cases A);have k3:eH [S] w (((K.drewN nq).alloc y).drewN q1):=⟨k2.os,k2.tape,k2.output,k2.size,k2.block⟩
   exact(k3.set (.inl (by simp)) _).set (.inr (by show w.heap.size<=w.heap.size+1;omega)) _
  clear x0 x1 x4 aj s0 s1 s3 sf hA an v ao aA az I am aB aC ad;generalize ((((K.drewN nq).alloc y).drewN q1).setCell ⟨S,1,none⟩ (.int .i64 (id:Int))).setCell ⟨w.heap.size+1,1,none⟩ (.int .i64 (id:Int))=W4 at*;have a0:=cn L 0;have a2:=cn L 2;have B:=M;unfold tS at B;have s1:=cn B 1;simp at a0 a2 s1;have aq:=cA L;have I:=cA M;have aL:=cA ae;have af:=cb (cd M (cd ae ap));clear M ae ap L B ac;go_region_held3 (fun W'=>W'.cell? ⟨w.heap.size,0,none⟩=some (.int .i64 c.kind)/\W'.cell? ⟨w.heap.size,2,none⟩=some (.string c.val)/\W'.cell? ⟨S,1,none⟩=some (.int .i64 (id:Int))) (go_keep) (first
   |(go_at_call 101;refine(aD.out _ W4.heap.size ?hx).mono ?_;(case hx=>first|exact gC (fD rfl)|exact fD rfl);rintro e U ⟨rfl,C⟩;have aM:U.cell? ⟨w.heap.size,0,none⟩=some (.int .i64 c.kind):=(C.cell (p:=⟨w.heap.size,0,none⟩) (by simp;omega)).trans ((cS (cC _ _ _ aq)).trans a0);have aN:U.cell? ⟨w.heap.size,2,none⟩=some (.string c.val):=(C.cell (p:=⟨w.heap.size,2,none⟩) (by simp;omega)).trans ((cS (cC _ _ _ aq)).trans a2);have aW:U.cell? ⟨S,1,none⟩=some (.int .i64 (id:Int)):=(C.cell (p:=⟨S,1,none⟩) (by simp;omega)).trans ((cS (cC _ _ _ I)).trans s1);have V:Below W4.heap.size W4 U:=((ct _ W4).alloc (PC _) _).trans ((mH C).mono (by simp));have ag:=cb V;clear C V a0 a2 s1)
   |fail)
  all_goals
   have ah:U.heap[S]?=some (tS s.up id (PJ s.held) s.je):=(ag.out.block S I).trans af.out.1
   have ar:U.heap[w.heap.size+1]?=some (xe o id 0 0 ⟨#[]⟩):=(ag.out.block _ aL).trans af.out.2.1
   have au:eH [S] w U:=af.out.2.2.trans (eH.dP (M:=[]) ag.out) (fun b A=>by cases A)
   have t:=ah
   unfold tS at t
   have av:=cn t 3
   simp at av
   rw[EF]at av
   have aX:=dN t
   have aY:IntKind.i64.wrap ((id:Int)+1)=(id:Int)+1:=eM _ (by omega) (by omega)
   have aQ:((id:Int)+1).tmod 65536=(((id+1) % 65536:Nat):Int):=by
    rw[show(id:Int)+1=((id+1:Nat):Int)by omega];rfl
   have HG:=cb (fun v1=>r.out U (w.heap.size+1) v1 (nE _) T au ah ar)
   clear ah ar au t r aM aN
   go_wp2
   go_ret
   refine⟨_,rfl,?_⟩
   rw[aH.out]
   refine HG.out _ ?_
   first|rfl|(simp;omega)|go_num
 .rw[cD J];simp only
  have aw:s.up=false:=by simpa using J
  rw[aw]at s0;have r:Hid (∀(D:World),Below w.heap.size w D->D.heap[w.heap.size+1]?=some (xe o 0 2 0 ⟨#[]⟩)->pA w D X a pt f n m d cs k l .fl (w.heap.size+1)):=fun D A hp=>⟨nE _,h.below A,⟨o,0,hp⟩,eH.dP A⟩
  have aO:Hid (∀O1 O2 q,Below w.heap.size w (((w.alloc O1).drewN q).alloc O2)):=fun O1 O2 q=>(cV cU _).alloc (by simp) _
  clear h Y E F p O hS hs z H Z hl;go_enter func167,ntmps167;go_wp2_with fail
  go_quiet ((go_at_call 138;exact Calls.quiet_of (aa.out _)))
  go_wp2;go_ret;exact⟨_,rfl,r.out _ (aO.out _ _ _) (fD (by simp))⟩
end Go.Proofs.YtlonjggfnleolaaGreatDoor
