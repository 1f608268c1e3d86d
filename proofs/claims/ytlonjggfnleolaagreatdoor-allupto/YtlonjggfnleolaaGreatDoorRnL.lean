import Derived.Test.YtlonjggfnleolaaGreatDoorRnKa
namespace Go.Proofs.YtlonjggfnleolaaGreatDoor
open Go.RowKit Go.Shelf Go.Proofs.Tryz
set_option linter.unusedVariables false
set_option maxHeartbeats 3000000
set_option maxRecDepth 100000
theorem De {w:World}{X sv pt f:Nat}{cv rv:Value}{C:List eE}{cs:List dE}{vs:List Nat}{ss:List dS}(h:eN w X sv pt f cv rv C cs vs ss){o:Nat}{p:dS}(hs:ss[o]?=some p)(a:ByteArray)(ap:p.up=true){T:Nat}(hT:T+5000<=100000000000)(aq:qD f T cs ss)(hd:qe cs)(hl:p.held.length+a.size<=1000000000000):Calls prog 116 #[.pointer (some ⟨X,0,none⟩),.int .i64 (o:Int),.string a] w fun e w'=>e= .returned (.int .i64 0)/\∃Y,tW w w' X sv pt f T cv rv C.length (fZ X cv C vs) vs Y (jO sv pt f o a.data.toList (cs,ss)):=by
 obtain⟨S,g,c,hv,ar,aD,hg,Z⟩:=h.tD hs;have hi:=(cq.1 hv).1;have au:=(cq.1 hs).1;have l:=h.eC;unfold DW at l;have c4:=cn l 4;simp at c4;rw[ar]at c4;have aE:=cA l;have ae:Hid (sG w (w.setCell ⟨S,2,none⟩ (.string (PJ p.held++a))) X sv pt f T cv rv C.length (fZ X cv C vs) vs o S (jO sv pt f o a.data.toList (cs,ss)) C cs (ss.set o {p with held:=p.held++a.data.toList}) {p with held:=p.held++a.data.toList}):=by
  have e:jO sv pt f o a.data.toList (cs,ss)=kr sv pt f o (cs,ss.set o {p with held:=p.held++a.data.toList}):=by unfold jO;simp only[hs]
  rw[e,vt];obtain⟨a1,a2⟩:=h.se (s':={p with held:=p.held++a.data.toList}) hv hs ((eH.refl [S] w).set (p:=⟨S,2,none⟩) (.inl (by simp)) (.string (PJ (p.held++a.data.toList)))) ((dh (i:=2) Z _).trans rfl) (h.nx p (cu hs));exact⟨⟨a1,rfl,aq.se hs rfl rfl,hd,a2,dB.refl _ _⟩,hv,cK au,ap,rfl⟩
 have av:Hid (({p with held:=p.held++a.data.toList}:dS).held.length<=1000000000000):=by
  show(p.held++a.data.toList).length<=_;rw[cI,Array.length_toList];exact hl
 generalize aF:({p with held:=p.held++a.data.toList}:dS)=s0 at ae av;generalize aw:ss.set o s0=aG at ae;generalize aH:jO sv pt f o a.data.toList (cs,ss)=tg at*;unfold tS at Z;have k0:=cn Z 0;have U:=cn Z 2;simp[ap]at k0 U;have kf:=dN Z;have aa:=cA Z;have h4:=h.s4;have aI:=h.len;have h0:¬(o:Int)<0:=by omega
 have h1:¬(vs.length:Int)<=(o:Int):=by omega
 have h2:(o:Int)<(vs.length:Int):=by omega
 have HT:=cb hT;obtain⟨n,hn⟩:∃n,C.length=n:=⟨_,rfl⟩
 obtain⟨M,hM⟩:∃M,fZ X cv C vs=M:=⟨_,rfl⟩
 rw[hn,hM]at ae⊢;have af:(PJ p.held).size+a.size<=1000000000000:=by rw[lr];exact hl
 clear h l Z aI aq hd ar aF aw aH hv hs au hT hn hM hl;go_enter func116,ntmps116;go_wp2_with fail
 generalize w.setCell ⟨S,2,none⟩ (.string (PJ p.held++a))=w1 at*;clear c4 k0 U kf aa aE aD hg h0 h1 h2 hi af;go_loopw [8,9,10,11,12] (fun _ _ _ _ _ wr=>∃(ai:List eE) (E:List dE) (ax:List dS) (s:dS),s.held.length<=1000000000000/\Hid (sG w wr X sv pt f T cv rv n M vs o S tg ai E ax s)) (fun _ _ _ _ _ wr=>OZ wr S)
 case atStart=>exact⟨C,cs,aG,s0,av.out,ae⟩
 case round=>
  obtain⟨ai,E,ax,s,ay,HJ⟩:=hrel;have l:=HJ.out.eC;unfold tS at l;have k0:=cn l 0;have U:=cn l 2;simp at k0 U;have kf:=dN l;have aa:=cA l;have az:=HJ.out.hv;obtain⟨H,hH⟩:∃H,PJ s.held=H:=⟨_,rfl⟩
  have aj:H.size=s.held.length:=by rw[<-hH,lr]
  have HB:Hid (∀(k:Nat) (hk:k<H.size),ep s.held k=H[k].toNat):=fun k hk=>by
   have e:H.data.toList=s.held:=by rw[<-hH,tb]
   rw[<-e];exact jF hk
  rw[hH]at U;have aP:H.size<=1000000000000:=by omega
  have HH:=cb (cd hH (cd aj az));clear l hH az;by_cases h7:s.held.length<7
  .have V:=cb (HJ.out.stop (EE h7));have aJ:¬(7:Int)<=(H.size:Int):=by omega
   clear h7 aj ay;go_wp2;go_ret;exact⟨rfl,_,V.out⟩
  .have aJ:(7:Int)<=(H.size:Int):=by omega
   have g0:0<H.size:=by omega
   have g1:1<H.size:=by omega
   have g2:2<H.size:=by omega
   have g3:3<H.size:=by omega
   have g4:4<H.size:=by omega
   have g5:5<H.size:=by omega
   have g6:6<H.size:=by omega
   have e0:=HB.out 0 g0;have e1:=HB.out 1 g1;have e2:=HB.out 2 g2;have e3:dM s.held 3=H[3].toNat+256*H[4].toNat:=by unfold dM;rw[HB.out 3 g3,HB.out 4 g4]
   have e5:dM s.held 5=H[5].toNat+256*H[6].toNat:=by unfold dM;rw[HB.out 5 g5,HB.out 6 g6]
   have t1:=eX H[1];have t2:=eX H[2];have t3:=eX H[3];have t4:=eX H[4];have t5:=eX H[5];have t6:=eX H[6];have HE:=cb (cd h7 (cd e0 (cd e1 (cd e2 (cd e3 e5)))));have i1:(1:Int)<(H.size:Int):=by omega
   have i2:(2:Int)<(H.size:Int):=by omega
   have i3:(3:Int)<(H.size:Int):=by omega
   have i4:(4:Int)<(H.size:Int):=by omega
   have i5:(5:Int)<(H.size:Int):=by omega
   have i6:(6:Int)<(H.size:Int):=by omega
   clear h7 e0 e1 e2 e3 e5 aj ay;go_wp2_with fail
   go_region
   have r:=cb (HJ.out.below (ct _ _).drew);obtain⟨q0,q1,q2,q3,q4,q5⟩:=HE.out;obtain⟨y,af⟩:∃y:Nat,H[3].toNat+256*H[4].toNat=y:=⟨_,rfl⟩
   have ez:((H[3].toNat:Int)+(256:Int)*(H[4].toNat:Int))=(y:Int):=by omega
   rw[af]at q4;rw[ez];clear k0 U kf aa;generalize wr.drew=A at*;have l:=r.out.eC;unfold tS at l;have k0:=cn l 0;have U:=cn l 2;simp at k0 U;have kf:=dN l;have aa:=cA l;rw[HH.out.1]at U;clear l af ez HE;have aQ:y<65536:=by have:=fL s.held 3;have:=fL s.held (3+1);unfold dM at q4;omega
   by_cases B:ep s.held 0≠2\/2<ep s.held 1\/ep s.held 2≠0\/40<dM s.held 3
   .have F:=cb (r.out.GO HT.out (JZ q0 B));have hc:(¬(H[0].toNat:Int)=2)\/((H[0].toNat:Int)=2/\(2:Int)<H[1].toNat)\/((H[0].toNat:Int)=2/\¬(2:Int)<H[1].toNat/\¬(H[2].toNat:Int)=0)\/((H[0].toNat:Int)=2/\¬(2:Int)<H[1].toNat/\(H[2].toNat:Int)=0/\(40:Int)<(y:Int)):=by omega
    clear B q0 q1 q2 q3 q4 q5;rcases hc with q1|⟨q1,q2⟩|⟨q1,q2,q3⟩|⟨q1,q2,q3,q4⟩
    all_goals
     go_wp2_with fail
     go_at_call 152
     refine F.out.mono ?_
     rintro e w3 ⟨rfl,hf⟩
     have V:=cb hf
     clear hf
     go_wp2
     go_ret
     exact⟨rfl,V.out⟩
   .have n0:(H[0].toNat:Int)=2:=by omega
    have n1:¬(2:Int)<(H[1].toNat:Int):=by omega
    have n2:(H[2].toNat:Int)=0:=by omega
    have n3:¬(40:Int)<(y:Int):=by omega
    by_cases ag:s.held.length<7+dM s.held 3
    .have V:=cb (r.out.stop (Ro q0 B ag));have n4:(H.size:Int)<7+(y:Int):=by have:=HH.out.2.1;omega
     clear B ag q0 q1 q2 q3 q4 q5;go_wp2;go_ret;exact⟨rfl,_,V.out⟩
    .have d:=Rm (cs:=E) (o:=o) q0 B ag;have n4:¬(H.size:Int)<7+(y:Int):=by have:=HH.out.2.1;omega
     have ah:Hid (H.extract (7+y) H.size=PJ (s.held.drop (uo s.held).used)/\H.extract 7 (7+y)=(uo s.held).val/\(uo s.held).st=H[1].toNat):=by
      have e:=HH.out.1;refine⟨?_,?_,q2⟩
      .show _=PJ (s.held.drop (7+dM s.held 3));rw[q4,<-e,QG]
      .show _=bytesOf s.held 7 (dM s.held 3);rw[q4,<-e,jo,tb,show 7+y-7=y by omega];rfl
     have I:=cb (fun(W:World) (J:Below A.heap.size A W)=>Gc (r.out.below J).uh.iw o (dM s.held 5));have aA:((dM s.held 5:Nat):Int)=(H[5].toNat:Int)+(256:Int)*(H[6].toNat:Int):=by omega
     rw[aA]at I;rw[q2,q4]at d;clear B ag q0 q1 q2 q3 q4 q5 aA;have O:IntKind.i64.wrap (IntKind.i64.wrap (H[5].toNat:Int)+IntKind.i64.wrap ((256:Int)*IntKind.i64.wrap (H[6].toNat:Int)))=(H[5].toNat:Int)+(256:Int)*(H[6].toNat:Int):=by
      rw[eM (H[5].toNat:Int) (by omega) (by omega),eM (H[6].toNat:Int) (by omega) (by omega),eM ((256:Int)*(H[6].toNat:Int)) (by omega) (by omega),eM _ (by omega) (by omega)]
     cases ab:mR o (dM s.held 5) E 0 with
     |none=>
      rw[ab]at d I;simp only at d;have F:=cb (fun(W:World) (J:Below A.heap.size A W)=>(r.out.below J).GO HT.out d);have ac:Hid (∀(W:World),Below A.heap.size A W->Calls prog 153 #[.pointer (some ⟨X,0,none⟩),.int .i64 (o:Int),.int .i64 ((H[5].toNat:Int)+(256:Int)*(H[6].toNat:Int))] W fun e w'=>e= .returned (.tuple #[.pointer none,.pointer none,.int .i64 0])/\Below A.heap.size A w'):=fun W J=>by
       refine(I.out W J).mono ?_;rintro e w' ⟨h1,q,rfl⟩;exact⟨h1,cV J q⟩
      clear d ab I ah;go_wp2_with fail
      have z:=ac.out A.drew (ct _ _).drew;rw[<-O]at z;have z:=cb z;clear ac O;go_region_held3 (fun _=>True) (trivial) (first
       |(go_at_call 153;refine z.out.mono ?_;rintro e w3 ⟨rfl,D⟩;have L:=cb D;clear D)
       |fail)
      all_goals
       have ad:=cb (F.out w3 L.out)
       clear F
       go_wp2_with fail
       go_at_call 152
       refine ad.out.mono ?_
       rintro e w4 ⟨rfl,hf⟩
       have V:=cb hf
       clear hf
       go_wp2
       go_ret
       exact⟨rfl,V.out⟩
     |some t=>
      obtain⟨i,k,m⟩:=t;rw[ab]at d I;simp only at d;obtain⟨j,s1,x,ej,ak,hx,hp⟩:=rQ o (dM s.held 5) E 0 i k m ab;obtain rfl:i=j:=by omega
      obtain⟨v,hv,al⟩:=r.out.uh.iw.Ns ak;obtain⟨u,hu⟩:∃u,v.ws[k]?=some u:=⟨_,cp (by rw[al.len];exact(cq.1 hx).1)⟩
      have aB:=al.qu k u x hu hx;obtain⟨b,l⟩:∃b,u.bs[m]?=some b:=⟨_,cp (by rw[aB.len];exact(cq.1 hp).1)⟩
      obtain⟨K,Z⟩:∃K,v.K=K:=⟨_,rfl⟩
      have ac:Hid (∀(W:World),Below A.heap.size A W->Calls prog 153 #[.pointer (some ⟨X,0,none⟩),.int .i64 (o:Int),.int .i64 ((H[5].toNat:Int)+(256:Int)*(H[6].toNat:Int))] W fun e w'=>e= .returned (.tuple #[.pointer (some ⟨K,0,none⟩),.pointer (some ⟨b,0,none⟩),.int .i64 (mU E i k)])/\Below A.heap.size A w'):=fun W J=>by
       refine(I.out W J).mono ?_;rintro e w' ⟨⟨v',u',b',h1,h2,h3,h4⟩,q,rfl⟩;rw[hv]at h1;cases h1;rw[hu]at h2;cases h2;rw[l]at h3;cases h3;rw[Z]at h4;exact⟨h4,cV J q⟩
      have z:=ac.out A.drew (ct _ _).drew;rw[<-O]at z;have am:Hid (∀(W:World),Below A.heap.size A W->W.heap[b]?=some (xe o (dM s.held 5) 0 0 ⟨#[]⟩)):=fun W J=>(((r.out.below J).uh.iw.jV i v s1 hv ak).qu k u x hu hx).ok m b _ l hp
      have an:=cb (cd hv (cd hu (cd l Z)));clear hv al hu aB l Z ak hx hp ac I O ab ej;generalize aK:mU E i k=kd at*;clear aK;have z:=cb z;by_cases P:y=0\/(kd=1/\H[1].toNat=0)
      .rw[cN P]at d;have aC:=cb d;clear d;have ao:(¬(0:Int)<(y:Int))\/((0:Int)<(y:Int)/\kd=1/\(H[1].toNat:Int)=0):=by omega
       clear P;have aR:((7:Int)+(y:Int)).toNat=7+y:=by omega
       have HK:Hid (∀(W:World),Below A.heap.size A W->¬b=S/\Calls prog 151 #[.pointer (some ⟨X,0,none⟩),.pointer (some ⟨K,0,none⟩)] ((((W.setCell ⟨S,2,none⟩ (.string (H.extract (7+y) H.size))).setCell ⟨b,2,none⟩ (.int .i64 1)).setCell ⟨b,3,none⟩ (.int .i64 (H[1].toNat:Int))).setCell ⟨b,4,none⟩ (.string (H.extract 7 (7+y)))) fun e w'=>e= .returned (.tuple #[])/\∃Y aL aM s',sG w w' X sv pt f T cv rv n M vs o S tg Y aL aM s'/\s'.held.length<s.held.length):=fun W J=>by
        have hJ:=r.out.below J;obtain⟨x1,x2,x3⟩:=ah.out;obtain⟨v1,v2,v3,v4⟩:=an.out;obtain⟨g1,⟨o',aN,g2⟩,g3⟩:=hJ.got HT.out aC.out v1 v2 v3 (Wa:=W.setCell ⟨S,2,none⟩ (.string (H.extract (7+y) H.size))) ((eH.refl [S] W).set (p:=⟨S,2,none⟩) (.inl (by simp)) _) (by rw[x1];exact(dh (i:=2) hJ.eC _).trans rfl);refine⟨g1,?_⟩;rw[<-v4];refine g3 _ ((((eH.refl [b] _).set (p:=⟨b,2,none⟩) (.inl (by simp)) _).set (p:=⟨b,3,none⟩) (.inl (by simp)) _).set (p:=⟨b,4,none⟩) (.inl (by simp)) _) ⟨o',aN,?_⟩;rw[x2,x3];exact(dh (i:=4) (dh (i:=3) (dh (i:=2) g2 _) _) _).trans rfl
       clear an aC ah k0 U kf aa;rcases ao with z1|⟨z1,z2,z3⟩
       all_goals
        go_wp2_with fail
        go_region_held3 (fun _=>True) (trivial) (first
         |(go_at_call 153;refine z.out.mono ?_;rintro e w3 ⟨rfl,D⟩;have L:=cb D;clear D)
         |fail)
        all_goals
         obtain⟨aO,N⟩:=HK.out w3 L.out
         try rw[z3]at N
         have HC:=cb N
         have aS:¬S=b:=fun e=>aO e.symm
         have R:=am.out w3 L.out
         unfold xe at R
         have p2:=cn R 2
         have p3:=cn R 3
         have p4:=cn R 4
         simp at p2 p3 p4
         have pf:=dN R
         have Q:=(r.out.below L.out).eC
         unfold tS at Q
         have U:=cn Q 2
         simp at U
         have kf:=dN Q
         clear R Q N HK am
         go_wp2_with fail
         go_at_call 151
         refine HC.out.mono ?_
         rintro e w4 ⟨rfl,hf⟩
         have V:=cb hf
         clear hf
         go_wp2
         go_roundw
         case rel=>exact V.out.elim fun c1 h=>h.elim fun c2 h=>h.elim fun c3 h=>h.elim fun c4 h=>⟨c1,c2,c3,c4,by have:=h.2;have:=HH.out.2.1;omega,h.1⟩
         case measure=>exact V.out.elim fun c1 h=>h.elim fun c2 h=>h.elim fun c3 h=>h.elim fun c4 h=>by rw[h.1.hv,HH.out.2.2];exact h.2
      .rw[cD P]at d;have F:=cb (fun(W:World) (J:Below A.heap.size A W)=>(r.out.below J).GO HT.out d);have z1:(0:Int)<(y:Int):=by omega
       have ao:(¬kd=1)\/(kd=1/\¬(H[1].toNat:Int)=0):=by omega
       clear d P ah am an;rcases ao with z2|⟨z2,z3⟩
       all_goals
        go_wp2_with fail
        go_region_held3 (fun _=>True) (trivial) (first
         |(go_at_call 153;refine z.out.mono ?_;rintro e w3 ⟨rfl,D⟩;have L:=cb D;clear D)
         |fail)
        all_goals
         have ad:=cb (F.out w3 L.out)
         clear F
         go_wp2_with fail
         go_at_call 152
         refine ad.out.mono ?_
         rintro e w4 ⟨rfl,hf⟩
         have V:=cb hf
         clear hf
         go_wp2
         go_ret
         exact⟨rfl,V.out⟩
end Go.Proofs.YtlonjggfnleolaaGreatDoor
