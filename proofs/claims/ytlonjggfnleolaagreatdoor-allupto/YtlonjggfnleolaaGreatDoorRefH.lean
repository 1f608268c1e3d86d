import Derived.Test.YtlonjggfnleolaaGreatDoorRefE
namespace Go.Proofs.YtlonjggfnleolaaGreatDoor
open Go.RowKit Go.Proofs.Tryz
set_option linter.unusedVariables false
set_option maxHeartbeats 4000000
set_option maxRecDepth 20000
theorem Co {w b:World}{C T:Nat}{k i:Int}{v a:ByteArray}(c:b.heap[C]?=some (.cells #[.int .i64 k,.slice (some ⟨T,0,none⟩) 1 1,.string v,.string ⟨#[]⟩,.bool false,.int .i64 i] 36 (0,0)))(d:b.heap[T]?=some (.cells #[.string a] 9 (0,0)))(e:b.heap[w.heap.size]?=some ly)(f:w.heap.size<C)(g:w.heap.size<=T)(h:Below w.heap.size w b):
 PI w b C ⟨k,[a],v,eY,false,i⟩ (.slice (some ⟨T,0,none⟩) 1 1):=
 ⟨c,e,f,.inr ⟨T,0,1,#[.string a],rfl,g,d,fun j s l=>(by grind),PC _⟩,h⟩
theorem zO (s:ByteArray)(w:World)(hs:s.size<=1000000000000)(h7:7<=s.size)(S:iR s.data.toList=true)(hl:7+ep s.data.toList 2+dM s.data.toList 3<=s.size->s.size=7+ep s.data.toList 2+dM s.data.toList 3):Calls prog 172 #[.string s] w fun e w'=>mi w w' (uN s.data.toList) e/\Below w.heap.size w w':=by
 have n0:0<s.size:=by omega
 have n1:1<s.size:=by omega
 have n2:2<s.size:=by omega
 have n3:3<s.size:=by omega
 have n4:4<s.size:=by omega
 have n5:5<s.size:=by omega
 have n6:6<s.size:=by omega
 have i3:(3:Int)<s.size:=by omega
 have i4:(4:Int)<s.size:=by omega
 have i5:(5:Int)<s.size:=by omega
 have i6:(6:Int)<s.size:=by omega
 have al:¬(s.size:Int)<7:=by omega
 have O:dM s.data.toList 3=s[3].toNat+256*s[4].toNat:=by unfold dM;rw[jF n3,jF n4]
 have hI:dM s.data.toList 5=s[5].toNat+256*s[6].toNat:=by unfold dM;rw[jF n5,jF n6]
 have t:=jF n2;have d:=jF n1;obtain⟨p0,p1,p2,p3,p4,p5,p6⟩:=Ew (jF n0) (jF n1) (jF n2) O S;have b0:s[0].toNat<256:=eX _;have b1:s[1].toNat<256:=eX _;have b2:s[2].toNat<256:=eX _;have b3:s[3].toNat<256:=eX _;have b4:s[4].toNat<256:=eX _;have b5:s[5].toNat<256:=eX _;have b6:s[6].toNat<256:=eX _;have w1:IntKind.i64.wrap (s[1].toNat:Int)=s[1].toNat:=eM _ (by omega) (by omega);have w2:IntKind.i64.wrap (s[2].toNat:Int)=s[2].toNat:=eM _ (by omega) (by omega);have w3:IntKind.i64.wrap (s[3].toNat:Int)=s[3].toNat:=eM _ (by omega) (by omega);have w4:IntKind.i64.wrap (s[4].toNat:Int)=s[4].toNat:=eM _ (by omega) (by omega)
 have w5:IntKind.i64.wrap (s[5].toNat:Int)=s[5].toNat:=eM _ (by omega) (by omega);have w6:IntKind.i64.wrap (s[6].toNat:Int)=s[6].toNat:=eM _ (by omega) (by omega);have q1:(s[0].toNat:Int)=1:=by omega
 have q2:¬(s[1].toNat:Int)<1:=by omega
 have q3:¬(3:Int)<(s[1].toNat:Int):=by omega
 have q4:¬(s[2].toNat:Int)<1:=by omega
 have q5:¬(8:Int)<(s[2].toNat:Int):=by omega
 have q6:¬(40:Int)<(s[3].toNat:Int)+(256:Int)*(s[4].toNat:Int):=by omega
 obtain⟨N,g⟩:∃N:Nat,N=s[3].toNat+256*s[4].toNat:=⟨_,rfl⟩
 have zN:(s[3].toNat:Int)+(256:Int)*(s[4].toNat:Int)=(N:Int):=by omega
 rw[zN]at q6;rw[O,<-g,t]at hl;have m:Hid (∀a,a=7+s[2].toNat->a+N=s.size->uN s.data.toList=if iX (s.extract 7 a)=false then some ⟨fj fU true,s.size,false⟩else some ⟨⟨s[1].toNat,[s.extract 7 a],s.extract a s.size,eY,false,(s[5].toNat+256*s[6].toNat:Nat)⟩,s.size,false⟩):=by
  intro a b H;unfold uN;rw[kQ,t,O,<-g,d,hI,cD (by omega),S,cD (by simp),cD (by omega)];have e1:bytesOf s.data.toList 7 s[2].toNat=s.extract 7 a:=by rw[jo,b,kM];rfl
  have e2:bytesOf s.data.toList (7+s[2].toNat) N=s.extract a s.size:=by rw[jo,<-b,show s.size-a=N by omega];rfl
  rw[e1,e2,show 7+s[2].toNat+N=s.size by omega]
 have n:Hid (∀a,a=7+s[2].toNat->a+N=s.size->fp (s[1].toNat:Int) [s.extract 7 a] (s.extract a s.size)=iX (s.extract 7 a)):=by
  intro a b H;rw[<-d];exact Nq S (by rw[O,<-g,gT];omega)
 have c:s.size<7+s[2].toNat+N->uN s.data.toList=none:=by
  intro h;unfold uN;rw[kQ,t,O,<-g,cD (by omega),S,cD (by simp),cN h]
 have P:s[1].toNat=2\/(¬s[1].toNat=2/\N=0):=by
  by_cases h:s[1].toNat=2
  .exact .inl h
  .exact .inr ⟨h,by have:=p6 h;omega⟩
 clear O hI S d t p0 p1 p2 p3 p4 p5 p6;obtain⟨x2,af⟩:∃x2:Nat,x2=s[2].toNat:=⟨_,rfl⟩
 have z2:(s[2].toNat:Int)=(x2:Int):=by omega
 obtain⟨a,b⟩:∃a:Nat,a=7+s[2].toNat:=⟨_,rfl⟩
 have zk:(7:Int)+(s[2].toNat:Int)=(a:Int):=by omega
 have Q:a<=15:=by omega
 clear z2 af;generalize ag:uN s.data.toList=U at*;clear ag;have I:(((s[1].toNat:Int)==2)=true/\((s[1].toNat:Int) != 2)=false)\/(((s[1].toNat:Int)==2)=false/\((s[1].toNat:Int) != 2)=true/\((N:Int)==0)=true/\((N:Int) != 0)=false):=by
  rcases P with h|⟨h1,h2⟩
  .left;have e:((s[1].toNat:Int)==2)=true:=by rw[beq_iff_eq];omega
   exact⟨e,by simp only[bne,e,lz]⟩
  .right;have e:((s[1].toNat:Int)==2)=false:=by rw[dW];omega
   have f:((N:Int)==0)=true:=by rw[beq_iff_eq];omega
   exact⟨e,by simp only[bne,e,gK],f,by simp only[bne,f,lz]⟩
 clear P;have HL:=cb hl;by_cases o:s.size<7+s[2].toNat+N
 .have u:=c o;subst u;have J:(s.size:Int)<(a:Int)+(N:Int):=by omega
  clear m n c hl b g o HL;rcases I with⟨P,K⟩|⟨P,K,q9,ah⟩
  all_goals
   go_enter func172,ntmps172
   go_wp2_with fail
   go_region
   go_wp2_with fail
   all_goals refine cE (v:= .tuple #[jM,.int .i64 0]) (by simp[results,results172,go_sem,jM]) rfl ⟨rfl,?_⟩
   all_goals repeat(first|with_reducible exact ct _ _|with_reducible refine dV ?_|with_reducible refine dU ?_ (by simp;try omega) _|with_reducible refine dJ ?_ (by simp;try omega) _)
 .have H:=HL.out (by omega);have p:a+N=s.size:=by omega
  have u:=m.out a b p;have V:=n.out a b p;have J:¬(s.size:Int)<(a:Int)+(N:Int):=by omega
  have X:=cb u;have HB:=cb V;have ai:(s.extract 7 a).size<=maxLen:=by rw[gT];unfold maxLen;omega
  have aj:(s.extract a s.size).size<=maxLen:=by rw[gT];unfold maxLen;omega
  have j1:(7:Int)<=(a:Int):=by omega
  have j2:(a:Int)<=(s.size:Int):=by omega
  have j3:a<=s.size:=by omega
  have wk:IntKind.i64.wrap (a:Int)=a:=eM _ (by omega) (by omega);have wI:IntKind.i64.wrap ((s[5].toNat:Int)+(256:Int)*(s[6].toNat:Int))=(s[5].toNat:Int)+(256:Int)*(s[6].toNat:Int):=eM _ (by omega) (by omega);have wJ:IntKind.i64.wrap ((256:Int)*(s[6].toNat:Int))=(256:Int)*(s[6].toNat:Int):=eM _ (by omega) (by omega);have hid:((s[5].toNat+256*s[6].toNat:Nat):Int)=(s[5].toNat:Int)+(256:Int)*(s[6].toNat:Int):=by omega
  have Y:=cb hid;clear m n c hl b g o HL u V H hid p;have v:Hid (∀(W:World),Below (w.heap.size+1) (w.alloc (.cells #[.int .i64 0,.slice none 0 0,.string ⟨#[]⟩,.string ⟨#[]⟩,.bool false,.int .i64 0] 36)) W->W.heap[w.heap.size]?=some ly/\Below w.heap.size w W):=fun W h=>⟨(h.block _ (by omega)).trans (du w _),cU.trans (h.mono (by omega))⟩
  go_enter func172,ntmps172;go_wp2_with fail
  go_region
  go_upto_region 5 with fail
  go_cut [56] (fun ak W=>ak= .bool false/\Below (w.heap.size+1) (w.alloc (.cells #[.int .i64 0,.slice none 0 0,.string ⟨#[]⟩,.string ⟨#[]⟩,.bool false,.int .i64 0] 36)) W)
  case first=>
   rcases I with⟨P,K⟩|⟨P,K,q9,ah⟩
   all_goals
    go_wp2_with fail
    go_meet
    case rel=>
     refine⟨congrArg Value.bool (by simp only[Bool.or_eq_false_iff,decide_eq_false_iff_not];omega),?_⟩;first|exact ct _ _|exact(ct _ _).drew|exact⟨rfl,rfl,rfl,PC _,fun _ _=>rfl⟩
  case rest=>
   clear I;obtain⟨rfl,hB⟩:=hcut;obtain⟨hR,d⟩:=v.out wc hB;have HW:=cb (cd hR d);have i:=cA hR;obtain⟨⟨z,A,B,D,E,F⟩,R⟩:=gf hR;clear hB hR d v;go_upto_region 10 with fail
   go_cut [7] (fun s7 W=>∃C T,s7= .pointer (some ⟨C,0,none⟩)/\PI w W C ⟨s[1].toNat,[s.extract 7 a],s.extract a s.size,eY,false,(s[5].toNat:Int)+(256:Int)*(s[6].toNat:Int)⟩ (.slice (some ⟨T,0,none⟩) 1 1))
   case first=>
    go_big_region
    all_goals go_wp2_with fail
    all_goals go_meet
    all_goals
     case rel=>
      have Z:w.heap.size<=wc.heap.size:=by omega
      have aa:∀x y,Below w.heap.size w ((wc.alloc x).alloc y).drew:=fun x y=>((HW.out.2.alloc Z _).alloc (by rw[cF];omega) _).drew
      first
       |exact⟨wc.heap.size+1,wc.heap.size,rfl,Co (gC (fD (by rw[cF]))) (gC (dI (fD rfl) _)) (gC (dI (dI HW.out.1 _) _)) (by omega) (by omega) (aa _ _)⟩
       |exact⟨wc.heap.size,wc.heap.size+1,rfl,Co (gC (dI (fD rfl) _)) (gC (fD (by rw[cF]))) (gC (dI (dI HW.out.1 _) _)) (by omega) (by omega) (aa _ _)⟩
   case rest=>
    clear z A B D E F R i HW;obtain⟨C,T,rfl,hC⟩:=hcut;obtain⟨⟨⟨k0,k1,Q,k3,k4,k5⟩,kf⟩,L,⟨⟨z,A,B,D,E,F⟩,R⟩,i⟩:=hC.cells;simp only at k0 k1 Q k3 k4 k5;have hS:=hC.keys.strs (by simp) (fun x hx=>by simp at hx;rw[hx];exact ai);have j:=cb (iz (s[1].toNat:Int) _ [s.extract 7 a] (s.extract a s.size) eY false ((s[5].toNat:Int)+(256:Int)*(s[6].toNat:Int)) wc hS aj);unfold db at j;rw[HB.out]at j;have HC:=cb hC;rw[Y.out]at X;clear hC hS HB Y;generalize (s[5].toNat:Int)+(256:Int)*(s[6].toNat:Int)=ab at*;generalize s.extract a s.size=ac at*;generalize s.extract 7 a=M at*;cases k:iX M with
    |false=>
     rw[k]at j;have u:U=some ⟨fj fU true,s.size,false⟩:=by rw[X.out,cN k]
     subst u;clear X k;go_wp2_with (first|(go_at_call 139;refine j.out.mono ?_;rintro r w3 ⟨rfl,q⟩;have l:=cb (HC.out.later q);clear q)|fail)
     go_at_call 182;refine(gH _ _ _).mono ?_;rintro r w4 ⟨rfl,ad⟩;have ae:=cb (l.out.later ad);clear ad l z A B D E F R i k0 k1 Q k3 k4 k5 kf L;obtain⟨_,_,⟨⟨z,A,B,D,E,F⟩,R⟩,i⟩:=ae.out.cells;unfold fF;go_wp2;refine cE (v:= .tuple #[fF fU true,.int .i64 1]) (by simp[results,results172,go_sem,fF,fU,z,A,B,D,E,F]) rfl ⟨⟨.slice none 0 0,rfl,.inl ⟨rfl,rfl⟩⟩,(ae.out.fin _ _ _ _ _ _).1⟩
    |true=>
     rw[k]at j;have u:U=some ⟨⟨s[1].toNat,[M],ac,eY,false,ab⟩,s.size,false⟩:=by rw[X.out,cD (by rw[k];simp)]
     subst u;clear X k;go_wp2_with (first|(go_at_call 139;refine j.out.mono ?_;rintro r w3 ⟨rfl,q⟩;have l:=cb (HC.out.later q);clear q z A B D E F R i k0 k1 Q k3 k4 k5 kf L;obtain⟨⟨⟨k0,k1,Q,k3,k4,k5⟩,kf⟩,L,⟨⟨z,A,B,D,E,F⟩,R⟩,i⟩:=l.out.cells;simp only at k0 k1 Q k3 k4 k5)|fail)
     refine cE (v:= .tuple #[iW ⟨s[1].toNat,[M],ac,eY,false,ab⟩ (.slice (some ⟨T,0,none⟩) 1 1),.int .i64 1]) (by simp[results,results172,go_sem,iW,z,A,B,D,E,F]) rfl ⟨⟨_,rfl,(l.out.fin _ _ _ _ _ _).2⟩,(l.out.fin _ _ _ _ _ _).1⟩
theorem BP (s:ByteArray)(a:List UInt8)(b:UInt8)(w:World)(d:s.size<=1000000000000)(hb:s.data.toList=a++[b])(e:uN a=none):Calls prog 172 #[.string s] w fun r w'=>mi w w' (uN s.data.toList) r/\Below w.heap.size w w':=by
 have f:=kQ s;by_cases g:s.size<7
 .have:uN s.data.toList=none:=by unfold uN;rw[cN (by omega)]
  rw[this];exact yW s w g
 .cases c:iR s.data.toList with
  |false=>
   have:uN s.data.toList=some ⟨fj fU true,7,false⟩:=by unfold uN;rw[cD (by omega),cN c]
   rw[this];exact BQ s w d (by omega) c
  |true=>exact zO s w d (by omega) c (fun h=>by have:=Nr hb e (by omega) c (by omega);omega)
end Go.Proofs.YtlonjggfnleolaaGreatDoor
