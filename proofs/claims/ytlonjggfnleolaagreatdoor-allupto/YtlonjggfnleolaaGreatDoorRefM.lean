import Derived.Test.YtlonjggfnleolaaGreatDoorRefF
namespace Go.Proofs.YtlonjggfnleolaaGreatDoor
open Go.RowKit Go.Proofs.Tryz
set_option linter.unusedVariables false
set_option maxHeartbeats 16000000
set_option maxRecDepth 20000
variable {s:ByteArray}{k F C:Nat}{b:List ByteArray}{w W a:World}{c:iO}{d:Value}
theorem Mi:qL (fO s.data.toList (k+1) ⟨s.size,false,false⟩ b)=none:=by
 have c:fO s.data.toList (k+1) ⟨s.size,false,false⟩ b=fO s.data.toList k (mL s.data.toList ⟨s.size,false,false⟩).2 (b++[(mL s.data.toList ⟨s.size,false,false⟩).1]):=rfl;have a:dY s.data.toList 36 ⟨s.size,false,false⟩=⟨s.size,false,true⟩:=by
  unfold dY;simp[WS.look]
 rw[c];obtain⟨d,e⟩:=uU (d:=s.data.toList) (a:=0) (b:=40) (s:=⟨s.size,false,true⟩) rfl rfl;obtain⟨f,g⟩:=tF (d:=s.data.toList) (n:=(fC s.data.toList 0 40 ⟨s.size,false,true⟩).1) d e;obtain⟨d1,d2⟩:=PT (d:=s.data.toList) (c:=10) f g;refine pj ?_ ?_
 .unfold mL;rw[a];exact d1
 .unfold mL;rw[a];exact d2
theorem Mh {p:Nat}(a:p<s.size)(c:¬s[p]=36):∃u,qL (fO s.data.toList (k+1) ⟨p,false,false⟩ b)=some ⟨fj fU true,u,false⟩:=by
 have d:fO s.data.toList (k+1) ⟨p,false,false⟩ b=fO s.data.toList k (mL s.data.toList ⟨p,false,false⟩).2 (b++[(mL s.data.toList ⟨p,false,false⟩).1]):=rfl;have e:=kQ s;have f:dY s.data.toList 36 ⟨p,false,false⟩=⟨p,true,false⟩:=by
  unfold dY;rw[cD (by simp[WS.look,e];omega),cD (by rw[nb a];exact c)]
 rw[d];refine pk ?_;unfold mL;rw[f];exact qQ (tG (pO rfl))
def Sn:Obj:= .cells #[.int .i64 4,.slice none 0 0,.string ⟨#[]⟩,.string fU,.bool true,.int .i64 0] 36 (0,0)
structure zr (w W:World)(F:Nat):Prop where
 res:W.heap[w.heap.size]?=some ly
 none_:W.heap[w.heap.size+1]?=some ly
 form:W.heap[F]?=some Sn
 gt:w.heap.size+1<F
 below:Below w.heap.size w W
theorem zr.later (h:zr w W F)(hb:Below W.heap.size W a):zr w a F:=
 ⟨(hb.block _ (cA h.res)).trans h.res,(hb.block _ (cA h.none_)).trans h.none_,(hb.block _ (cA h.form)).trans h.form,h.gt,h.below.trans (hb.mono h.below.size)⟩
theorem zr.grown {n:Nat}{v:Value}{i:List Value}(h:zr w W F)(d:W.ownsRow w.heap.size 9 1 v n i)(b:W.grownBy a v.ownBlock):zr w a F:=by
 have c:∀k Z,W.heap[k]?=some (.cells Z 36 (0,0))->some k≠v.ownBlock:=by
  intro k Z f e;obtain⟨_,⟨rfl,_⟩|⟨g,j,l,rfl,_,m,_⟩⟩:=d
  .cases e
  .have:k=g:=by simpa [Value.ownBlock]using e
   rw[this,m]at f;cases f
 exact⟨(b.block _ (cA h.res) (c _ _ h.res)).trans h.res,(b.block _ (cA h.none_) (c _ _ h.none_)).trans h.none_,(b.block _ (cA h.form) (c _ _ h.form)).trans h.form,h.gt,h.below.trans (rS d b h.below.size)⟩
structure Lj (w W:World)(F:Nat):Prop where
 r:uw W w.heap.size 0 (.slice none 0 0) ⟨#[]⟩
 n:uw W (w.heap.size+1) 0 (.slice none 0 0) ⟨#[]⟩
 f:W.cell? ⟨F,0,none⟩=some (.int .i64 4)/\W.cell? ⟨F,1,none⟩=some (.slice none 0 0)/\W.cell? ⟨F,2,none⟩=some (.string ⟨#[]⟩)/\W.cell? ⟨F,3,none⟩=some (.string fU)/\W.cell? ⟨F,4,none⟩=some (.bool true)/\W.cell? ⟨F,5,none⟩=some (.int .i64 0)
 lt:F<W.heap.size
 Pu:w.heap.size+1<W.heap.size
theorem zr.cells (h:zr w W F):Lj w W F:=
 ⟨gf h.res,gf h.none_,⟨cn h.form 0,cn h.form 1,cn h.form 2,cn h.form 3,cn h.form 4,cn h.form 5⟩,cA h.form,cA h.none_⟩
theorem PI.drew (h:PI w W C c d):PI w W.drew C c d:=⟨h.at_,h.res,h.gt,h.keys.other (PC _) (fun _ _ _ _=>rfl),h.below.drew⟩
theorem PI.put (h:PI w W C c d)(a:iO)(f:Value)(i:gF W w.heap.size f a.keys):
 PI w ((((((W.setCell ⟨C,0,none⟩ (.int .i64 a.kind)).setCell ⟨C,1,none⟩ f).setCell ⟨C,2,none⟩ (.string a.val)).setCell ⟨C,3,none⟩ (.string a.word)).setCell ⟨C,4,none⟩ (.bool a.fatal)).setCell ⟨C,5,none⟩ (.int .i64 a.id)) C a f:=
 ⟨(dh (i:=5) (dh (i:=4) (dh (i:=3) (dh (i:=2) (dh (i:=1) (dh (i:=0) h.at_ _) _) _) _) _) _).trans rfl,(jB (by have:=h.gt;omega) _ _ _ _ _ _).trans h.res,h.gt,i.other (PC _) (fun b Z g _=>jB (fun e=>by rw[e,h.at_]at g;cases g) _ _ _ _ _ _),tA h.below (Nat.le_of_lt h.gt) _ _ _ _ _ _⟩
theorem PI.Pb {a:Value}{b:List ByteArray}(h:PI w W C c d)(k:Int)(v:ByteArray)(i:Int)(e:gF W w.heap.size a b):
 PI w ((((((W.setCell ⟨C,0,none⟩ (.int .i64 k)).setCell ⟨C,1,none⟩ a).setCell ⟨C,2,none⟩ (.string v)).setCell ⟨C,3,none⟩ (.string ⟨#[]⟩)).setCell ⟨C,4,none⟩ (.bool false)).setCell ⟨C,5,none⟩ (.int .i64 i)).drew C ⟨k,b,v,eY,false,i⟩ a:=
 (h.put ⟨k,b,v,eY,false,i⟩ a e).drew
theorem Dn (s:ByteArray)(w:World)(hs:s.size<=1000000000000)(h1:0<s.size):Calls prog 173 #[.string s] w fun r w'=>mi w w' (zq s.data.toList) r/\Below w.heap.size w w':=by
 have ae:=kQ s;have hE:∀h:s[0]=42,zq s.data.toList=qL (fO s.data.toList (eJ s.data.toList 1 5 (s.size-1) 1 0 true).1 (eJ s.data.toList 1 5 (s.size-1) 1 0 true).2 []):=by
  intro h;unfold zq qL;simp only
  have e1:dY s.data.toList 42 ⟨0,false,false⟩=⟨1,false,false⟩:=by
   unfold dY;rw[cD (by simp[WS.look,ae];omega),cN (by show s.data.toList.getD 0 0=42;rw[nb h1];exact h)]
  rw[e1,Cs (by omega),ae]
 have aB:¬s[0]=42->∃u,zq s.data.toList=some ⟨fj fU true,u,false⟩:=by
  intro h;have e1:dY s.data.toList 42 ⟨0,false,false⟩=⟨0,true,false⟩:=by
   unfold dY;rw[cD (by simp[WS.look,ae];omega),cD (by show¬s.data.toList.getD 0 0=42;rw[nb h1];exact h)]
  unfold zq;simp only
  rw[e1];exact pk (pO rfl)
 have HF:Hid (∀(W:World),Below (w.heap.size+2) ((w.alloc (.cells #[.int .i64 0,.slice none 0 0,.string ⟨#[]⟩,.string ⟨#[]⟩,.bool false,.int .i64 0] 36)).alloc (.cells #[.int .i64 0,.slice none 0 0,.string ⟨#[]⟩,.string ⟨#[]⟩,.bool false,.int .i64 0] 36)) W->zr w (W.alloc (.cells #[.int .i64 4,.slice none 0 0,.string ⟨#[]⟩,.string fU,.bool true,.int .i64 0] 36)) W.heap.size):=by
  intro W h;have aZ:=h.size;simp at aZ;have a1:W.heap[w.heap.size]?=some ly:=(h.block _ (by omega)).trans (dI (du w _) _);have a2:W.heap[w.heap.size+1]?=some ly:=(h.block _ (by omega)).trans (fD (by simp));exact⟨dI a1 _,dI a2 _,du W _,by omega,((cU.alloc (by simp) _).trans (h.mono (by omega))).alloc (by omega) _⟩
 generalize zq s.data.toList=V at*;have HE:=cb (cd hE aB);clear hE aB;go_enter func173,ntmps173;go_wp2_with fail
 go_at_call 182;refine(gH _ _ _).mono ?_;rintro r w1 ⟨rfl,af⟩;have HL:=cb (HF.out w1 (by simpa using af));have ar:w1.heap[w.heap.size]?=some ly:=(af.block _ (by simp;omega)).trans (dI (du w _) _);have al:=cA ar;have aC:=cb (show w1.heap[w.heap.size+1]?=some ly from(af.block _ (by simp)).trans (fD (by simp)));have ab:=cb (show Below w.heap.size w w1 from(cU.alloc (by simp) _).trans (af.mono (by simp;omega)));obtain⟨⟨E,F,H,I,J,K⟩,T⟩:=gf ar;clear af HF ar;unfold fF;by_cases au:s[0]=42
 .have hR:=HE.out.1 au;have HN:=cb (fun W=>uk s 1 1 5 W (by unfold maxLen;omega) (by omega) (by omega) (by omega));have ac:=wM (d:=s.data.toList) (a:=1) (c:=5) (s.size-1) 1 0 true (by omega);have am:=vX (a:=s.data.toList) (b:=1) (d:=5) (s.size-1) 1 0 true (by omega);have Q:=Bp (d:=s.data.toList) (a:=1) (i:=5) (s.size-1) 1 0 true (fun h=>by cases h);generalize eJ s.data.toList 1 5 (s.size-1) 1 0 true=C0 at*;obtain⟨D,p0,a0,av⟩:=C0;simp only at hR ac Q;cases a0 with
  |true=>
   obtain⟨u,hu⟩:=pk (d:=s.data.toList) (k:=D) (s:=⟨p0,true,av⟩) (e:=[]) rfl;rw[hu]at hR;subst hR;have e1:yF (D,⟨p0,true,av⟩)=(0,-2):=rfl;rw[e1]at HN;clear am Q ac HE e1 hu;go_wp2_with (first|(go_at_call 185;refine(HN.out _).mono ?_;rintro r w2 ⟨rfl,hw⟩;subst hw)|fail)
   go_loop [7,8,9] (fun a l k=>a= .int .i64 (-2)/\l= .slice none 0 0/\k= .int .i64 0) (fun _ _ _=>0)
   case atStart=>exact⟨rfl,rfl,rfl⟩
   case round=>
    obtain⟨rfl,rfl,rfl⟩:=hrel;have aD:=ab.out.size;go_wp2_with fail
    refine cE (v:= .tuple #[fF fU true,.int .i64 1]) (by simp[results,results173,go_sem,fF,fU,E,F,H,I,J,K,al]) rfl ⟨⟨.slice none 0 0,rfl,.inl ⟨rfl,rfl⟩⟩,?_⟩;repeat(first|with_reducible exact ab.out|with_reducible refine dV ?_|with_reducible refine dU ?_ (by first|omega|(simp;try omega)) _|with_reducible refine dJ ?_ (by first|exact PC _|(simp;try omega)) _)
  |false=>
   cases av with
   |true=>
    rw[pj (d:=s.data.toList) (k:=D) (s:=⟨p0,false,true⟩) (e:=[]) rfl rfl]at hR;subst hR;have e1:yF (D,⟨p0,false,true⟩)=(0,-1):=rfl;rw[e1]at HN;have ag:w1.heap[w.heap.size+1]?=some ly:=aC.out;have aE:=cA ag;obtain⟨⟨n0,n1,n2,n3,n4,n5⟩,nf⟩:=gf ag;clear am Q ac HE e1 ag;go_wp2_with (first|(go_at_call 185;refine(HN.out _).mono ?_;rintro r w2 ⟨rfl,hw⟩;subst hw)|fail)
    go_loop [7,8,9] (fun a l k=>a= .int .i64 (-1)/\l= .slice none 0 0/\k= .int .i64 0) (fun _ _ _=>0)
    case atStart=>exact⟨rfl,rfl,rfl⟩
    case round=>
     obtain⟨rfl,rfl,rfl⟩:=hrel;have aD:=ab.out.size;go_wp2_with fail
     refine cE (v:= .tuple #[jM,.int .i64 0]) (by simp[results,results173,go_sem,jM,E,F,H,I,J,K,al]) rfl ⟨rfl,?_⟩;repeat(first|with_reducible exact ab.out|with_reducible refine dV ?_|with_reducible refine dU ?_ (by first|omega|(simp;try omega)) _|with_reducible refine dJ ?_ (by first|exact PC _|(simp;try omega)) _)
   |false=>
    have e1:yF (D,⟨p0,false,false⟩)=((D:Int),(p0:Int)):=rfl;rw[e1]at HN;have bp:1<=D:=Q rfl rfl;have aF:p0<=s.size:=by have:=am.pos;rw[ae]at this;exact this
    have HR:=cb hR.symm;clear am Q HE e1 hR;obtain⟨i9,hi,aG,aH,aI⟩:=wR;have HI:=cb (cd hi (cd aG (cd aH aI)));clear hi aG aH aI;go_wp2_with (first|(go_at_call 185;refine(HN.out _).mono ?_;rintro r w2 ⟨rfl,hw⟩;subst hw)|fail)
    clear HN E F H I J K T al aC ab;go_loopw [7,8,9] (fun a l k wr=>∃(p j:Nat) (b:List ByteArray) (va:Option Addr) (vn vc:Nat),a= .int .i64 (p:Int)/\l= .slice va vn vc/\k= .int .i64 (j:Int)/\j<=D/\p<=s.size/\Hid (b.length=j)/\Hid (qL (fO s.data.toList (D-j) ⟨p,false,false⟩ b)=V)/\Hid (∀x∈b,x.size<=1000000000000)/\Hid (zr w wr w1.heap.size/\wr.ownsRow w.heap.size 9 1 (.slice va vn vc) b.length (b.map Value.string))) (fun _ _ k _=>D-(intOf k).toNat)
    case atStart=>exact⟨p0,0,[],none,0,0,rfl,rfl,rfl,cG _,aF,rfl,HR,(fun x hx=>by cases hx),HL.out,dv _ _ _ _⟩
    case round=>
     clear HL HR aF;obtain⟨p,j,b,va,vn,vc,rfl,rfl,rfl,hj,hp,ah,HC,aw,HJ⟩:=hrel;obtain⟨⟨⟨E,F,H,I,J,K⟩,T⟩,⟨⟨n0,n1,n2,n3,n4,n5⟩,nf⟩,⟨f0,f1,f2,f3,f4,f5⟩,a3,aE⟩:=HJ.out.1.cells;have a4:=HJ.out.1.gt;have bq:(0:Int)<=(p:Int):=by omega
     by_cases br:j<D
     .obtain⟨k,hk⟩:∃k,D-j=k+1:=⟨D-j-1,by omega⟩
      have P:=HC.out;rw[hk]at P;by_cases aJ:p=s.size
      .rw[aJ,Mi]at P;subst P;subst aJ;clear HC hk;go_wp2_with fail
       refine cE (v:= .tuple #[jM,.int .i64 0]) (by simp[results,results173,go_sem,jM,E,F,H,I,J,K]) rfl ⟨rfl,?_⟩;exact tA HJ.out.1.below (PC _) _ _ _ _ _ _
      .have aK:p<s.size:=by omega
       have bk:¬(s.size:Int)<=(p:Int):=by omega
       by_cases an:s[p]=36
       .obtain⟨o1,o2,o3⟩:=ND (k:=k) (e:=b) aK an;have ap:((s[p].toNat:Int) != 36)=false:=by rw[an];rfl
        have aa:Hid (∀W:World,Calls prog 185 #[.string s,.int .i64 ((p:Int)+1),.int .i64 0,.int .i64 40] W fun e w'=>e= .returned (.tuple #[.int .i64 (yF (eJ s.data.toList 0 40 (s.size-(p+1)) (p+1) 0 true)).1,.int .i64 (yF (eJ s.data.toList 0 40 (s.size-(p+1)) (p+1) 0 true)).2])/\w'=W):=fun W=>uk s (p+1) 0 40 W (by unfold maxLen;omega) (by omega) (by omega) (by omega)
        have aq:=vX (a:=s.data.toList) (b:=0) (d:=40) (s.size-(p+1)) (p+1) 0 true (by omega);have aL:=wM (d:=s.data.toList) (a:=0) (c:=40) (s.size-(p+1)) (p+1) 0 true (by omega);generalize eJ s.data.toList 0 40 (s.size-(p+1)) (p+1) 0 true=C1 at*;obtain⟨n,q,wq,sq⟩:=C1;simp only at o1 o2 aL;have hq:q<=s.size:=by have:=aq.pos;rw[ae]at this;exact this
        clear aq;cases wq with
        |true=>
         obtain⟨u,hu⟩:=o1 rfl;rw[hu]at P;subst P;have e1:yF (n,⟨q,true,sq⟩)=(0,-2):=rfl;rw[e1]at aa;clear o1 o2 o3 HC hk e1 hu;go_wp2_with (first|(go_at_call 185;refine(aa.out _).mono ?_;rintro r w2 ⟨rfl,hw⟩;subst hw)|fail)
         refine cE (v:= .tuple #[fF fU true,.int .i64 1]) (by simp[results,results173,go_sem,fF,fU,E,F,H,I,J,K]) rfl ⟨⟨.slice none 0 0,rfl,.inl ⟨rfl,rfl⟩⟩,?_⟩;exact tA HJ.out.1.below (PC _) _ _ _ _ _ _
        |false=>
         cases sq with
         |true=>
          rw[o2 rfl rfl]at P;subst P;have e1:yF (n,⟨q,false,true⟩)=(0,-1):=rfl;rw[e1]at aa;clear o1 o2 o3 HC hk e1;go_wp2_with (first|(go_at_call 185;refine(aa.out _).mono ?_;rintro r w2 ⟨rfl,hw⟩;subst hw)|fail)
          refine cE (v:= .tuple #[jM,.int .i64 0]) (by simp[results,results173,go_sem,jM,E,F,H,I,J,K]) rfl ⟨rfl,?_⟩;exact tA HJ.out.1.below (PC _) _ _ _ _ _ _
         |false=>
          obtain⟨o4,o5,o6⟩:=o3 n q rfl;have e1:yF (n,⟨q,false,false⟩)=((n:Int),(q:Int)):=rfl;rw[e1]at aa;clear o1 o2 o3 e1;have bs:¬(q:Int)<0:=by omega
          obtain⟨m,hm⟩:∃m,m=q+n:=⟨_,rfl⟩
          have zm:(q:Int)+(n:Int)=(m:Int):=by omega
          rw[<-hm]at o4;have HO:Hid (∀h:m<s.size,(¬s[m]=10->∃u,qL (fO s.data.toList (k+1) ⟨p,false,false⟩ b)=some ⟨fj fU true,u,false⟩)/\(s[m]=10->fO s.data.toList (k+1) ⟨p,false,false⟩ b=fO s.data.toList k ⟨m+1,false,false⟩ (b++[s.extract q m]))):=by
           subst hm;exact fun h=>⟨o5 h,o6 h⟩
          clear o5 o6;have bt:q<=m:=by omega
          have bl:m<=q+40:=by omega
          clear hm;by_cases a5:m<s.size
          .have aM:¬(s.size:Int)<=(m:Int):=by omega
           obtain⟨g1,g2⟩:=HO.out a5;clear o4 HO;by_cases ax:s[m]=10
           .have hT:=g2 ax;rw[hT]at P;have a6:=cb P;clear g1 g2 hT P HC;have y1:(0:Int)<=(q:Int):=by omega
            have y2:(q:Int)<=(m:Int):=by omega
            have y3:(m:Int)<=(s.size:Int):=by omega
            have a7:w.heap.size<=wr.heap.size:=HJ.out.1.below.size;have bu:b.length<=5:=by rw[ah.out];omega
            go_wp2_with (first
             |(go_at_call 185;refine(aa.out _).mono ?_;rintro r w2 ⟨rfl,hw⟩;subst hw)
             |(at_builtin;refine mD _ rfl _ _ _ rfl w.heap.size 9 i9 (.string ⟨#[]⟩) 1 16 eO HI.out.1 HI.out.2.1 HI.out.2.2.1 HI.out.2.2.2 rfl (by omega) (.slice va vn vc) b.length (b.map Value.string) rfl (eA HJ.out.2 _) ⟨_,0,none⟩ 1 1 [.string (s.extract q m)] rfl rfl (cell_one_new _ _ _) (by simp[Value.oneCell']) (by unfold maxLen;omega) (by omega) (by simp;omega) ?_;intro v' w9 U ai aN a8;obtain⟨ua,un,uc,a9⟩:=tR U;subst a9;have HG:=cb (cd U ai);clear U ai aN a8)
             |fail)
            go_roundw;case rel=>
             have ba:D-(j+1)=k:=by omega
             refine⟨m+1,j+1,b++[s.extract q m],_,_,_,by go_num,rfl,by go_num,by omega,by omega,?_,?_,?_,?_,?_⟩
             .show _=_;rw[cI,ah.out];rfl
             .show _=_;rw[ba];exact a6.out
             .intro x hx;rcases cr.1 hx with h|h
              .exact aw.out x h
              .rw[gl]at h;rw[h,gT];omega
             .exact(HJ.out.1.later cU).grown (eA HJ.out.2 _) HG.out.2
             .have:=HG.out.1;rw[cI,dF];exact this
            case measure=>simp[intOf];omega
           .obtain⟨u,hu⟩:=g1 ax;rw[hu]at P;subst P;have aO:((s[m].toNat:Int)==10)=false:=vK ax;have bb:((s[m].toNat:Int) != 10)=true:=by simp only[bne,aO,gK]
            clear g1 g2 HC hk hu;go_wp2_with (first|(go_at_call 185;refine(aa.out _).mono ?_;rintro r w2 ⟨rfl,hw⟩;subst hw)|fail)
            refine cE (v:= .tuple #[fF fU true,.int .i64 1]) (by simp[results,results173,go_sem,fF,fU,E,F,H,I,J,K]) rfl ⟨⟨.slice none 0 0,rfl,.inl ⟨rfl,rfl⟩⟩,?_⟩;exact tA HJ.out.1.below (PC _) _ _ _ _ _ _
          .have aM:(s.size:Int)<=(m:Int):=by omega
           rw[o4 (by omega)]at P;subst P;clear o4 HO HC hk;go_wp2_with (first|(go_at_call 185;refine(aa.out _).mono ?_;rintro r w2 ⟨rfl,hw⟩;subst hw)|fail)
           refine cE (v:= .tuple #[jM,.int .i64 0]) (by simp[results,results173,go_sem,jM,E,F,H,I,J,K]) rfl ⟨rfl,?_⟩;exact tA HJ.out.1.below (PC _) _ _ _ _ _ _
       .obtain⟨u,hu⟩:=Mh (k:=k) (b:=b) aK an;rw[hu]at P;subst P;have ap:((s[p].toNat:Int)==36)=false:=vK an;have bc:((s[p].toNat:Int) != 36)=true:=by simp only[bne,ap,gK]
        clear HC hk hu;go_wp2_with fail
        refine cE (v:= .tuple #[fF fU true,.int .i64 1]) (by simp[results,results173,go_sem,fF,fU,E,F,H,I,J,K]) rfl ⟨⟨.slice none 0 0,rfl,.inl ⟨rfl,rfl⟩⟩,?_⟩;exact tA HJ.out.1.below (PC _) _ _ _ _ _ _
     .have aP:j=D:=by omega
      subst aP;have P:=HC.out;rw[rI]at P;obtain⟨x,o,bd⟩:∃x o,b=x::o:=by
       cases b with
       |nil=>have:=ah.out;simp at this;omega
       |cons x o=>exact⟨x,o,rfl⟩
      subst bd;have aQ:V=some (if fp (pW (x::o)).kind (pW (x::o)).keys (pW (x::o)).val then⟨pW (x::o),p,false⟩else⟨fj iG false,p,false⟩):=by
       rw[<-P,<-DK];rfl
      have A:=cb aQ;clear P HC aQ;have aR:o.length+1=j:=ah.out;have U:=HJ.out.2;have ao:∃g c,Value.slice (some ⟨g,0,none⟩) (x::o).length c= .slice va vn vc:=by
       obtain⟨_,⟨_,h0⟩|⟨g,be,bv,e,_⟩⟩:=U
       .simp at h0
       .exact⟨g,be,e.symm⟩
      obtain⟨g,c,ao⟩:=ao;rw[<-ao]at U;cases ao;generalize vc=c at*;obtain⟨hT,bw⟩:=ll rfl (by simp) U;have aj:=hT.lt;have bm:o.length+1<=c:=by obtain⟨Z,_,_,h,_⟩:=hT;exact h
      have bx:w.heap.size<g:=by
       rcases Nat.lt_or_ge w.heap.size g with h|h
       .exact h
       .exfalso;have e:g=w.heap.size:=by omega
        obtain⟨Z,hZ,_⟩:=hT;rw[e,HJ.out.1.res]at hZ;cases hZ
      have c0:=fY hT (i:=0) (x:=x) rfl;have HT:=cb (cd hT (cd HJ.out.1.res HJ.out.1.below));have ay:Hid (∀y∈o,y.size<=maxLen):=fun y hy=>cP (aw.out y (by simp[hy])) (by unfold maxLen;omega)
      have bz:o.length<=4:=by omega
      clear U hT HJ aw ah n0 n1 n2 n3 n4 n5 nf f0 f1 f2 f3 f4 f5 a3 aE a4;have bA:((p:Int)== -1)=false:=by rw[dW];omega
      have bB:((p:Int)== -2)=false:=by rw[dW];omega
      have jj:¬(j:Int)<(j:Int):=by omega
      rw[dc];generalize hn:o.length=n at*;have HN:=cb hn;have bC:=cb aR;clear hn aR;have m1:(1:Int)<=(n:Int)+1:=by omega
      have m3:(n:Int)+1<=(c:Int):=by omega
      have m4:(0:Int)<(n:Int)+1:=by omega
      go_upto_region 27 with fail
      go_cut [12] (fun az W=>∃C d,az= .pointer (some ⟨C,0,none⟩)/\PI w W C ⟨0,o,eY,eY,false,0⟩ d/\gG W g c (x::o))
      case first=>
       by_cases hc:c=1
       .subst hc;have ag:n=0:=by omega
        subst ag;have bf:o=[]:=dw.1 HN.out;subst bf;go_wp2_with fail
        go_meet
        case rel=>exact⟨_,_,rfl,PI.mk' HT.out.2.1 (yr HT.out.1 (by omega)) HT.out.2.2,HT.out.1.other (cC _ _ _ aj)⟩
       .have aS:=cb (yt HT.out.1 (a:=w.heap.size) (by omega));rw[HN.out]at aS;go_wp2_with fail
        go_meet
        case rel=>exact⟨_,_,rfl,PI.mk' HT.out.2.1 aS.out HT.out.2.2,HT.out.1.other (cC _ _ _ aj)⟩
      case rest=>
       clear c0 aj HT E F H I J K T;obtain⟨C,d,rfl,P,hT⟩:=hcut;have c0:=fY hT (i:=0) (x:=x) rfl;have aj:=hT.lt;obtain⟨⟨⟨X,Y,k2,k3,k4,k5⟩,kf⟩,O,⟨⟨E,F,H,I,J,K⟩,T⟩,_⟩:=P.cells;have HC:=cb (cd P hT);have bg:¬g=C:=fun e=>by
        obtain⟨Z,hZ,_⟩:=hT;rw[e,P.at_]at hZ;cases hZ
       have bD:¬C=g:=fun e=>bg e.symm
       have L:=P.gt;obtain⟨ka,kc,aT⟩:=P.keys.form;clear P hT;simp only at aT X Y k2 k3 k4 k5;subst aT;have ak:Hid (∀W,gF W w.heap.size (.slice ka o.length kc) o->og W (.slice ka o.length kc) o):=fun W h=>h.strs (by rw[HN.out];omega) ay.out
       rcases vh x with⟨hx,hk⟩|⟨hx,hk⟩|⟨hx,aU,hk⟩
       .subst hx;have M:=cb (HC.out.1.kind 1);have ad:=cb hk;clear hk;have N:pW (⟨#[103,101,116]⟩::o)=⟨1,o,eY,eY,false,0⟩:=by unfold pW;rw[cD (fun h=>(show¬(⟨#[103,101,116]⟩:ByteArray)=⟨#[115,101,116]⟩by decide) h.1)];show(⟨kB ⟨#[103,101,116]⟩,o,eY,eY,false,0⟩:iO)=_;rw[ad.out]
        rw[N]at A;simp only at A;have t:=cb (iz (⟨1,o,eY,eY,false,0⟩:iO).kind _ (⟨1,o,eY,eY,false,0⟩:iO).keys (⟨1,o,eY,eY,false,0⟩:iO).val eY false 0 _ (ak.out _ M.out.keys) (by show eY.size<=maxLen;decide));unfold db at t;simp only at t;cases f:fp (⟨1,o,eY,eY,false,0⟩:iO).kind (⟨1,o,eY,eY,false,0⟩:iO).keys (⟨1,o,eY,eY,false,0⟩:iO).val with
        |false=>
         simp only at f;rw[f]at t;have hr:V=some ⟨fj iG false,p,false⟩:=by rw[A.out,f];rfl
         subst hr;clear A f N;go_wp2_with (first|(go_at_call 139;refine t.out.mono ?_;rintro r w3 ⟨rfl,B⟩;have v:=cb (M.out.later B);clear B)|fail)
         go_at_call 182;refine(gH _ _ _).mono ?_;rintro r w4 ⟨rfl,R⟩;have S:=cb (v.out.later R);clear R v E F H I J K T L X Y k2 k3 k4 k5 kf O;obtain⟨_,_,⟨⟨E,F,H,I,J,K⟩,T⟩,L⟩:=S.out.cells;unfold fF;go_wp2;refine cE (v:= .tuple #[fF iG false,.int .i64 1]) (by simp[results,results173,go_sem,fF,iG,E,F,H,I,J,K]) rfl ⟨⟨.slice none 0 0,rfl,.inl ⟨rfl,rfl⟩⟩,(S.out.fin _ _ _ _ _ _).1⟩
        |true=>
         simp only at f;rw[f]at t;have hr:V=some ⟨⟨1,o,eY,eY,false,0⟩,p,false⟩:=by rw[A.out,f];rfl
         subst hr;clear A f N;go_wp2_with (first|(go_at_call 139;refine t.out.mono ?_;rintro r w3 ⟨rfl,B⟩;have v:=cb (M.out.later B);clear B E F H I J K T L X Y k2 k3 k4 k5 kf O;obtain⟨⟨⟨X,Y,k2,k3,k4,k5⟩,kf⟩,O,⟨⟨E,F,H,I,J,K⟩,T⟩,L⟩:=v.out.cells;simp only at X Y k2 k3 k4 k5)|fail)
         refine cE (v:= .tuple #[iW ⟨1,o,eY,eY,false,0⟩ (.slice ka o.length kc),.int .i64 1]) (by simp[results,results173,go_sem,iW,E,F,H,I,J,K]) rfl ⟨⟨_,rfl,(v.out.fin _ _ _ _ _ _).2⟩,(v.out.fin _ _ _ _ _ _).1⟩
       .subst hx;have M:=cb (HC.out.1.kind 3);have ad:=cb hk;clear hk;have N:pW (⟨#[100,101,108]⟩::o)=⟨3,o,eY,eY,false,0⟩:=by unfold pW;rw[cD (fun h=>(show¬(⟨#[100,101,108]⟩:ByteArray)=⟨#[115,101,116]⟩by decide) h.1)];show(⟨kB ⟨#[100,101,108]⟩,o,eY,eY,false,0⟩:iO)=_;rw[ad.out]
        rw[N]at A;simp only at A;have t:=cb (iz (⟨3,o,eY,eY,false,0⟩:iO).kind _ (⟨3,o,eY,eY,false,0⟩:iO).keys (⟨3,o,eY,eY,false,0⟩:iO).val eY false 0 _ (ak.out _ M.out.keys) (by show eY.size<=maxLen;decide));unfold db at t;simp only at t;cases f:fp (⟨3,o,eY,eY,false,0⟩:iO).kind (⟨3,o,eY,eY,false,0⟩:iO).keys (⟨3,o,eY,eY,false,0⟩:iO).val with
        |false=>
         simp only at f;rw[f]at t;have hr:V=some ⟨fj iG false,p,false⟩:=by rw[A.out,f];rfl
         subst hr;clear A f N;go_wp2_with (first|(go_at_call 139;refine t.out.mono ?_;rintro r w3 ⟨rfl,B⟩;have v:=cb (M.out.later B);clear B)|fail)
         go_at_call 182;refine(gH _ _ _).mono ?_;rintro r w4 ⟨rfl,R⟩;have S:=cb (v.out.later R);clear R v E F H I J K T L X Y k2 k3 k4 k5 kf O;obtain⟨_,_,⟨⟨E,F,H,I,J,K⟩,T⟩,L⟩:=S.out.cells;unfold fF;go_wp2;refine cE (v:= .tuple #[fF iG false,.int .i64 1]) (by simp[results,results173,go_sem,fF,iG,E,F,H,I,J,K]) rfl ⟨⟨.slice none 0 0,rfl,.inl ⟨rfl,rfl⟩⟩,(S.out.fin _ _ _ _ _ _).1⟩
        |true=>
         simp only at f;rw[f]at t;have hr:V=some ⟨⟨3,o,eY,eY,false,0⟩,p,false⟩:=by rw[A.out,f];rfl
         subst hr;clear A f N;go_wp2_with (first|(go_at_call 139;refine t.out.mono ?_;rintro r w3 ⟨rfl,B⟩;have v:=cb (M.out.later B);clear B E F H I J K T L X Y k2 k3 k4 k5 kf O;obtain⟨⟨⟨X,Y,k2,k3,k4,k5⟩,kf⟩,O,⟨⟨E,F,H,I,J,K⟩,T⟩,L⟩:=v.out.cells;simp only at X Y k2 k3 k4 k5)|fail)
         refine cE (v:= .tuple #[iW ⟨3,o,eY,eY,false,0⟩ (.slice ka o.length kc),.int .i64 1]) (by simp[results,results173,go_sem,iW,E,F,H,I,J,K]) rfl ⟨⟨_,rfl,(v.out.fin _ _ _ _ _ _).2⟩,(v.out.fin _ _ _ _ _ _).1⟩
       .have bh:=JO (s:=x) [103,101,116] hx;have aV:=JO (s:=x) [100,101,108] aU;by_cases aA:x=⟨#[115,101,116]⟩
        .subst aA;clear hx aU bh aV;by_cases aW:n=2
         .subst aW;obtain⟨y,z,bi⟩:∃y z,o=[y,z]:=by
           have:=HN.out;match o,this with
           | [y,z],_=>exact⟨y,z,rfl⟩
          subst bi;have c1:=fY HC.out.2 (i:=1) (x:=y) rfl;have c2:=fY HC.out.2 (i:=2) (x:=z) rfl;have bE:3<=c:=by omega
          have bF:¬c=1:=by omega
          have l1:(1:Int)<=2:=by omega
          have l2:(2:Int)<=(c:Int):=by omega
          have l3:2<=c:=by omega
          have l4:(2:Int)<2+1:=by omega
          have aX:Hid (gF wc w.heap.size (.slice (some ⟨g,1,none⟩) 1 (c-1)) [y]):=by
           obtain⟨Z,hZ,_,_,hi⟩:=HC.out.2;exact .inr ⟨g,1,c-1,Z,rfl,by omega,hZ,fun i u hu=>(by
            match i,hu with
            |0,hu=>simp at hu;subst hu;exact hi 1 y rfl),by show 1<=c-1;omega⟩
          clear ak hk;go_upto_region 33 with fail
          go_cut [12] (fun az W=>az= .pointer (some ⟨C,0,none⟩)/\PI w W C ⟨2,[y],z,eY,false,0⟩ (.slice (some ⟨g,1,none⟩) 1 (c-1)))
          case first=>
           go_big_region
           all_goals go_wp2_with fail
           all_goals go_meet
           all_goals
            case rel=>
             exact⟨rfl,HC.out.1.Pb 2 z 0 aX.out⟩
          case rest=>
           clear c0 c1 c2 aj X Y k2 k3 k4 k5 kf O E F H I J K T HC aX L;obtain⟨rfl,P⟩:=hcut;obtain⟨⟨⟨X,Y,k2,k3,k4,k5⟩,kf⟩,O,⟨⟨E,F,H,I,J,K⟩,T⟩,L⟩:=P.cells;simp only at X Y k2 k3 k4 k5;have M:=cb P;clear P;have N:pW (⟨#[115,101,116]⟩::[y,z])=⟨2,[y],z,eY,false,0⟩:=by unfold pW;rw[cN ⟨rfl,rfl⟩];rfl
           rw[N]at A;simp only at A;have t:=cb (iz (⟨2,[y],z,eY,false,0⟩:iO).kind _ (⟨2,[y],z,eY,false,0⟩:iO).keys (⟨2,[y],z,eY,false,0⟩:iO).val eY false 0 _ (M.out.keys.strs (by simp) (fun u hu=>by simp at hu;rw[hu];exact ay.out y (by simp))) (ay.out z (by simp)));unfold db at t;simp only at t;cases f:fp (⟨2,[y],z,eY,false,0⟩:iO).kind (⟨2,[y],z,eY,false,0⟩:iO).keys (⟨2,[y],z,eY,false,0⟩:iO).val with
           |false=>
            simp only at f;rw[f]at t;have hr:V=some ⟨fj iG false,p,false⟩:=by rw[A.out,f];rfl
            subst hr;clear A f N;go_wp2_with (first|(go_at_call 139;refine t.out.mono ?_;rintro r w3 ⟨rfl,B⟩;have v:=cb (M.out.later B);clear B)|fail)
            go_at_call 182;refine(gH _ _ _).mono ?_;rintro r w4 ⟨rfl,R⟩;have S:=cb (v.out.later R);clear R v E F H I J K T L X Y k2 k3 k4 k5 kf O;obtain⟨_,_,⟨⟨E,F,H,I,J,K⟩,T⟩,L⟩:=S.out.cells;unfold fF;go_wp2;refine cE (v:= .tuple #[fF iG false,.int .i64 1]) (by simp[results,results173,go_sem,fF,iG,E,F,H,I,J,K]) rfl ⟨⟨.slice none 0 0,rfl,.inl ⟨rfl,rfl⟩⟩,(S.out.fin _ _ _ _ _ _).1⟩
           |true=>
            simp only at f;rw[f]at t;have hr:V=some ⟨⟨2,[y],z,eY,false,0⟩,p,false⟩:=by rw[A.out,f];rfl
            subst hr;clear A f N;go_wp2_with (first|(go_at_call 139;refine t.out.mono ?_;rintro r w3 ⟨rfl,B⟩;have v:=cb (M.out.later B);clear B E F H I J K T L X Y k2 k3 k4 k5 kf O;obtain⟨⟨⟨X,Y,k2,k3,k4,k5⟩,kf⟩,O,⟨⟨E,F,H,I,J,K⟩,T⟩,L⟩:=v.out.cells;simp only at X Y k2 k3 k4 k5)|fail)
            refine cE (v:= .tuple #[iW ⟨2,[y],z,eY,false,0⟩ (.slice (some ⟨g,1,none⟩) 1 (c-1)),.int .i64 1]) (by simp[results,results173,go_sem,iW,E,F,H,I,J,K]) rfl ⟨⟨_,rfl,(v.out.fin _ _ _ _ _ _).2⟩,(v.out.fin _ _ _ _ _ _).1⟩
         .have bn:((n:Int)+1==3)=false:=by rw[dW];omega
          have M:=cb HC.out.1;have ad:=cb hk;clear hk;have N:pW (⟨#[115,101,116]⟩::o)=⟨0,o,eY,eY,false,0⟩:=by unfold pW;rw[cD (fun h=>aW (by have h2:o.length+1=3:=h.2;rw[HN.out]at h2;omega))];show(⟨kB ⟨#[115,101,116]⟩,o,eY,eY,false,0⟩:iO)=_;rw[ad.out]
          rw[N]at A;simp only at A;have t:=cb (iz (⟨0,o,eY,eY,false,0⟩:iO).kind _ (⟨0,o,eY,eY,false,0⟩:iO).keys (⟨0,o,eY,eY,false,0⟩:iO).val eY false 0 _ (ak.out _ M.out.keys) (by show eY.size<=maxLen;decide));unfold db at t;simp only at t;cases f:fp (⟨0,o,eY,eY,false,0⟩:iO).kind (⟨0,o,eY,eY,false,0⟩:iO).keys (⟨0,o,eY,eY,false,0⟩:iO).val with
          |false=>
           simp only at f;rw[f]at t;have hr:V=some ⟨fj iG false,p,false⟩:=by rw[A.out,f];rfl
           subst hr;clear A f N;go_wp2_with (first|(go_at_call 139;refine t.out.mono ?_;rintro r w3 ⟨rfl,B⟩;have v:=cb (M.out.later B);clear B)|fail)
           go_at_call 182;refine(gH _ _ _).mono ?_;rintro r w4 ⟨rfl,R⟩;have S:=cb (v.out.later R);clear R v E F H I J K T L X Y k2 k3 k4 k5 kf O;obtain⟨_,_,⟨⟨E,F,H,I,J,K⟩,T⟩,L⟩:=S.out.cells;unfold fF;go_wp2;refine cE (v:= .tuple #[fF iG false,.int .i64 1]) (by simp[results,results173,go_sem,fF,iG,E,F,H,I,J,K]) rfl ⟨⟨.slice none 0 0,rfl,.inl ⟨rfl,rfl⟩⟩,(S.out.fin _ _ _ _ _ _).1⟩
          |true=>
           simp only at f;rw[f]at t;have hr:V=some ⟨⟨0,o,eY,eY,false,0⟩,p,false⟩:=by rw[A.out,f];rfl
           subst hr;clear A f N;go_wp2_with (first|(go_at_call 139;refine t.out.mono ?_;rintro r w3 ⟨rfl,B⟩;have v:=cb (M.out.later B);clear B E F H I J K T L X Y k2 k3 k4 k5 kf O;obtain⟨⟨⟨X,Y,k2,k3,k4,k5⟩,kf⟩,O,⟨⟨E,F,H,I,J,K⟩,T⟩,L⟩:=v.out.cells;simp only at X Y k2 k3 k4 k5)|fail)
           refine cE (v:= .tuple #[iW ⟨0,o,eY,eY,false,0⟩ (.slice ka o.length kc),.int .i64 1]) (by simp[results,results173,go_sem,iW,E,F,H,I,J,K]) rfl ⟨⟨_,rfl,(v.out.fin _ _ _ _ _ _).2⟩,(v.out.fin _ _ _ _ _ _).1⟩
        .have bo:=JO (s:=x) [115,101,116] aA;have M:=cb HC.out.1;have ad:=cb hk;clear hk;have N:pW (x::o)=⟨0,o,eY,eY,false,0⟩:=by unfold pW;rw[cD (fun h=>aA h.1)];show(⟨kB x,o,eY,eY,false,0⟩:iO)=_;rw[ad.out]
         rw[N]at A;simp only at A;have t:=cb (iz (⟨0,o,eY,eY,false,0⟩:iO).kind _ (⟨0,o,eY,eY,false,0⟩:iO).keys (⟨0,o,eY,eY,false,0⟩:iO).val eY false 0 _ (ak.out _ M.out.keys) (by show eY.size<=maxLen;decide));unfold db at t;simp only at t;cases f:fp (⟨0,o,eY,eY,false,0⟩:iO).kind (⟨0,o,eY,eY,false,0⟩:iO).keys (⟨0,o,eY,eY,false,0⟩:iO).val with
         |false=>
          simp only at f;rw[f]at t;have hr:V=some ⟨fj iG false,p,false⟩:=by rw[A.out,f];rfl
          subst hr;clear A f N;go_wp2_with (first|(go_at_call 139;refine t.out.mono ?_;rintro r w3 ⟨rfl,B⟩;have v:=cb (M.out.later B);clear B)|fail)
          go_at_call 182;refine(gH _ _ _).mono ?_;rintro r w4 ⟨rfl,R⟩;have S:=cb (v.out.later R);clear R v E F H I J K T L X Y k2 k3 k4 k5 kf O;obtain⟨_,_,⟨⟨E,F,H,I,J,K⟩,T⟩,L⟩:=S.out.cells;unfold fF;go_wp2;refine cE (v:= .tuple #[fF iG false,.int .i64 1]) (by simp[results,results173,go_sem,fF,iG,E,F,H,I,J,K]) rfl ⟨⟨.slice none 0 0,rfl,.inl ⟨rfl,rfl⟩⟩,(S.out.fin _ _ _ _ _ _).1⟩
         |true=>
          simp only at f;rw[f]at t;have hr:V=some ⟨⟨0,o,eY,eY,false,0⟩,p,false⟩:=by rw[A.out,f];rfl
          subst hr;clear A f N;go_wp2_with (first|(go_at_call 139;refine t.out.mono ?_;rintro r w3 ⟨rfl,B⟩;have v:=cb (M.out.later B);clear B E F H I J K T L X Y k2 k3 k4 k5 kf O;obtain⟨⟨⟨X,Y,k2,k3,k4,k5⟩,kf⟩,O,⟨⟨E,F,H,I,J,K⟩,T⟩,L⟩:=v.out.cells;simp only at X Y k2 k3 k4 k5)|fail)
          refine cE (v:= .tuple #[iW ⟨0,o,eY,eY,false,0⟩ (.slice ka o.length kc),.int .i64 1]) (by simp[results,results173,go_sem,iW,E,F,H,I,J,K]) rfl ⟨⟨_,rfl,(v.out.fin _ _ _ _ _ _).2⟩,(v.out.fin _ _ _ _ _ _).1⟩
 .have aY:((s[0].toNat:Int)==42)=false:=vK au;have bj:((s[0].toNat:Int) != 42)=true:=by simp only[bne,aY,gK]
  obtain⟨u,hR⟩:=HE.out.2 au;subst hR;clear HE;have aD:=ab.out.size;go_wp2_with fail
  refine cE (v:= .tuple #[fF fU true,.int .i64 1]) (by simp[results,results173,go_sem,fF,fU,E,F,H,I,J,K,al]) rfl ⟨⟨.slice none 0 0,rfl,.inl ⟨rfl,rfl⟩⟩,?_⟩;repeat(first|with_reducible exact ab.out|with_reducible refine dV ?_|with_reducible refine dU ?_ (by first|omega|(simp;try omega)) _|with_reducible refine dJ ?_ (by first|exact PC _|(simp;try omega)) _)
end Go.Proofs.YtlonjggfnleolaaGreatDoor
