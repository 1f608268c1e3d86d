import Derived.Test.YtlonjggfnleolaaGreatDoorGivenA
namespace Go.Proofs.YtlonjggfnleolaaGreatDoor
open Go.RowKit Go.Proofs.Tryz
set_option linter.unusedVariables false
set_option maxHeartbeats 4000000
set_option maxRecDepth 20000
def pR (b j:Nat):List Value:=((sS b).toList.drop (j*18)).take 18
theorem CJ (b:Nat):∀j,j<10->(pR b j).length=18:=by
 intro j a;match j,a with
 |0,_=>rfl
 |1,_=>rfl
 |2,_=>rfl
 |3,_=>rfl
 |4,_=>rfl
 |5,_=>rfl
 |6,_=>rfl
 |7,_=>rfl
 |8,_=>rfl
 |9,_=>rfl
theorem ED (b j m:Nat)(v:Value)(h:(pR b j)[m]?=some v):(sS b)[j*18+m]?=some v:=by
 unfold pR at h;have a:m<18:=by grind
 rw[dx a,iy]at h;simpa using h
theorem Rk (p:Value)(l h:Int)(w:World)(I:Nat->World->Prop)(B:I 0 ((w.alloc (.cells #[.string ⟨#[97]⟩] 9)).alloc (.cells (sS w.heap.size) 95)))(c:∀j,j<10->l<=sT.getD j 0->sT.getD j 0<=h->∀W,I j W->Calls prog 40 #[p,.agg (pR w.heap.size j).toArray] W fun e C=>e= .returned (.bool true)/\I (j+1) C/\∀(b:Nat) (Z:Array Value),W.heap[b]?=some (.cells Z 95 (0,0))->C.heap[b]?=some (.cells Z 95 (0,0)))(d:∀j,j<10->¬(l<=sT.getD j 0/\sT.getD j 0<=h)->∀W,I j W->I (j+1) W):Calls prog 39 #[p,.int .i64 l,.int .i64 h] w fun e w'=>e= .returned (.bool true)/\I 10 w':=by
 have u:=cb c;have x:=cb d;have J:=cb B;clear c d B;go_wp2;refine Ja (v:= .slice (some ⟨(w.alloc (.cells #[.string ⟨#[97]⟩] 9)).heap.size,0,none⟩) 10 10) (w':=(w.alloc (.cells #[.string ⟨#[97]⟩] 9)).alloc (.cells (sS w.heap.size) 95)) (by kernel_rfl) ?_;rw[cF];generalize D:sS w.heap.size=G at*;have E:=cb D;clear D;generalize Value.agg #[.int .i64 2,.slice (some ⟨w.heap.size,0,none⟩) 1 1,.string ⟨#[120,121]⟩,.string ⟨#[]⟩,.bool false,.int .i64 0]=U;generalize Value.agg #[.int .i64 1,.int .i64 0,.int .i64 2,.slice (some ⟨w.heap.size,0,none⟩) 1 1,.string ⟨#[120,121]⟩,.string ⟨#[]⟩,.bool false,.int .i64 0,.int .i64 0,.slice none 0 0,.slice none 0 0,.string ⟨#[]⟩,.int .i64 0,.int .i64 0,.int .i64 0,.string ⟨#[]⟩,.int .i64 1,.int .i64 0]=V
 generalize Value.agg #[.int .i64 4,.int .i64 0,.int .i64 0,.slice none 0 0,.string ⟨#[]⟩,.string ⟨#[]⟩,.bool false,.int .i64 0,.int .i64 0,.slice none 0 0,.slice none 0 0,.string ⟨#[]⟩,.int .i64 0,.int .i64 0,.int .i64 0,.string ⟨#[]⟩,.int .i64 1,.int .i64 0]=X;generalize Value.agg #[.int .i64 4,.int .i64 0,.int .i64 0,.slice none 0 0,.string ⟨#[]⟩,.string ⟨#[]⟩,.bool false,.int .i64 0,.int .i64 0,.slice none 0 0,.slice none 0 0,.string ⟨#[]⟩,.int .i64 0,.int .i64 0,.int .i64 0,.string ⟨#[]⟩,.int .i64 2,.int .i64 0]=Y;generalize Value.agg #[.int .i64 4,.int .i64 0,.int .i64 0,.slice none 0 0,.string ⟨#[]⟩,.string ⟨#[]⟩,.bool false,.int .i64 0,.int .i64 0,.slice none 0 0,.slice none 0 0,.string ⟨#[]⟩,.int .i64 0,.int .i64 0,.int .i64 0,.string ⟨#[]⟩,.int .i64 3,.int .i64 0]=z4
 generalize Value.agg #[.int .i64 5,.int .i64 0,.int .i64 0,.slice none 0 0,.string ⟨#[]⟩,.string ⟨#[]⟩,.bool false,.int .i64 0,.int .i64 0,.slice none 0 0,.slice none 0 0,.string ⟨#[]⟩,.int .i64 0,.int .i64 0,.int .i64 0,.string ⟨#[103,101,116,32,97,32,98,10]⟩,.int .i64 0,.int .i64 0]=z5;generalize Value.agg #[.int .i64 8,.int .i64 0,.int .i64 0,.slice none 0 0,.string ⟨#[]⟩,.string ⟨#[]⟩,.bool false,.int .i64 0,.int .i64 0,.slice none 0 0,.slice none 0 0,.string ⟨#[]⟩,.int .i64 3,.int .i64 5,.int .i64 2,.string ⟨#[]⟩,.int .i64 0,.int .i64 0]=z6;generalize Value.agg #[.int .i64 9,.int .i64 0,.int .i64 0,.slice none 0 0,.string ⟨#[]⟩,.string ⟨#[]⟩,.bool false,.int .i64 0,.int .i64 0,.slice none 0 0,.slice none 0 0,.string ⟨#[]⟩,.int .i64 0,.int .i64 0,.int .i64 0,.string ⟨#[]⟩,.int .i64 1,.int .i64 0]=z7
 generalize Value.agg #[.int .i64 9,.int .i64 0,.int .i64 0,.slice none 0 0,.string ⟨#[]⟩,.string ⟨#[]⟩,.bool false,.int .i64 0,.int .i64 0,.slice none 0 0,.slice none 0 0,.string ⟨#[]⟩,.int .i64 0,.int .i64 0,.int .i64 0,.string ⟨#[]⟩,.int .i64 2,.int .i64 0]=z8;generalize Value.agg #[.int .i64 9,.int .i64 0,.int .i64 0,.slice none 0 0,.string ⟨#[]⟩,.string ⟨#[]⟩,.bool false,.int .i64 0,.int .i64 0,.slice none 0 0,.slice none 0 0,.string ⟨#[]⟩,.int .i64 0,.int .i64 0,.int .i64 0,.string ⟨#[]⟩,.int .i64 3,.int .i64 0]=z9;generalize Value.agg #[.int .i64 10,.int .i64 0,.int .i64 0,.slice none 0 0,.string ⟨#[]⟩,.string ⟨#[]⟩,.bool false,.int .i64 0,.int .i64 0,.slice none 0 0,.slice none 0 0,.string ⟨#[]⟩,.int .i64 0,.int .i64 0,.int .i64 0,.string ⟨#[103,101,116,32,97,10,115,101,116,32,98,32,49,10,120,10]⟩,.int .i64 0,.int .i64 0]=L
 generalize Value.agg #[.int .i64 3,.int .i64 5,.int .i64 2]=M;go_wp2;have N:Hid (((w.alloc (.cells #[.string ⟨#[97]⟩] 9)).alloc (.cells G 95)).heap[w.heap.size+1]?=some (.cells G 95 (0,0))):=by
  have F:=du (w.alloc (.cells #[.string ⟨#[97]⟩] 9)) (.cells G 95);rw[cF]at F;exact F
 go_loopw [8,9] (fun i k wr=>∃j:Nat,j<=10/\i= .int .i64 j/\Hid (I j wr)/\Hid (wr.heap[w.heap.size+1]?=some (.cells G 95 (0,0)))) (fun i _ _=>10-(intOf i).toNat)
 case atStart=>exact⟨0,cG _,rfl,J,N⟩
 case round=>
  obtain⟨j,hj,rfl,t,f⟩:=hrel;by_cases a:j<10
  .have O:wr.cell? ⟨w.heap.size+1,j*18,none⟩=some (.int .i64 (sT.getD j 0)):=by
    rw[cn f.out,<-E.out,Nat.mul_comm];exact JX _ j a
   have P:wr.cell? ⟨w.heap.size+1,18*j,none⟩=some (.int .i64 (sT.getD j 0)):=by
    rw[Nat.mul_comm];exact O
   have HO:=cb (u.out j a);have g:=cb (x.out j a);have Q:Hid (wr.rangeAt (w.heap.size+1) (j*18) (pR w.heap.size j)):=fun m v R=>by
    rw[cn f.out,<-E.out];exact ED _ j m v R
   have S:Hid ((prog.info? 95).map (·.size)=some (pR w.heap.size j).length):=by rw[CJ _ j a];exact(show(prog.info? 95).map (·.size)=some 18 by kernel_rfl)
   generalize pR w.heap.size j=T at*;generalize sT.getD j 0=K at*;by_cases n:l<=K
   .by_cases o:K<=h
    .have H:=cb (HO.out n o wr t.out);clear HO g;go_wp2_with (show wpList _ _ _ ({dst:=_,op:=Op.load 95 _,type:=_,pos:=_,after:=_,guard:=_}::_) _ _;refine wpList_load_mid rfl 95 _ rfl (w.heap.size+1) (j*18) rfl T _ Q.out jw rfl S.out ?_)
     go_at_call 40;refine H.out.mono ?_;rintro e w1 ⟨rfl,q,r⟩;have s:=cb q;have y:=cb (r _ _ f.out);clear r q H;go_wp2_with fail
     exact⟨⟨j+1,by omega,by go_num,s,y⟩,by simp[intOf];omega⟩
    .have s:=cb (g.out (fun z=>o z.2) wr t.out);clear HO g;go_wp2_with fail
     exact⟨⟨j+1,by omega,by go_num,s,f⟩,by simp[intOf];omega⟩
   .have s:=cb (g.out (fun z=>n z.1) wr t.out);clear HO g;go_wp2_with fail
    exact⟨⟨j+1,by omega,by go_num,s,f⟩,by simp[intOf];omega⟩
  .have A:j=10:=by omega
   subst A;go_wp2;go_ret;exact⟨rfl,t.out⟩
theorem Il (b o N c:Nat)(l h n:Int)(w:World)(f:Nat->Int)(a:Nat->List Value)(I:Nat->World->Prop)(J:World->Prop)(s:b<w.heap.size)(hN:N<=c)(aa:N<=140737488355328)(t:∀j,j<N->(a j).length=18/\w.cell? ⟨b,o+j*18,none⟩=some (.int .i64 (f j))/\w.rangeAt b (o+j*18) (a j))(u:Calls prog 39 #[.pointer (some ⟨w.heap.size,0,none⟩),.int .i64 l,.int .i64 h] (w.alloc (.cells #[.slice none 0 0,.slice none 0 0,.slice none 0 0,.slice none 0 0,.slice none 0 0,.slice none 0 0,.int .i64 0] 87)) fun e w'=>e= .returned (.bool true)/\I 0 w')(X:∀j W,I j W->Below w.heap.size w W)(x:∀j,j<N->l<=f j->f j<=h->¬f j=n->∀W,I j W->Calls prog 40 #[.pointer (some ⟨w.heap.size,0,none⟩),.agg (a j).toArray] W fun e y=>e= .returned (.bool true)/\I (j+1) y)(z:∀j,j<N->¬(l<=f j/\f j<=h/\¬f j=n)->∀W,I j W->I (j+1) W)(A:∀W,I N W->Calls prog 41 #[.pointer (some ⟨w.heap.size,0,none⟩),.int .i64 l,.int .i64 h] W fun e y=>e= .returned (.bool true)/\J y)(B:∀W,J W->Calls prog 42 #[.pointer (some ⟨w.heap.size,0,none⟩)] W fun e y=>e= .returned (.bool true)/\Below w.heap.size w y):Calls prog 15 #[.slice (some ⟨b,o,none⟩) N c,.int .i64 l,.int .i64 h,.int .i64 n] w fun e w'=>e= .returned (.bool true)/\Below w.heap.size w w':=by
 have Q:=cb t;have Y:=cb u;have HB:=cb X;have R:=cb x;have S:=cb z;have T:=cb A;have U:=cb B;clear t u X x z A B;go_enter func15,ntmps15;go_wp2_with fail
 go_at_call 39;refine Y.out.mono ?_;rintro e w1 ⟨rfl,C⟩;have H1:=cb C;clear C Y;go_wp2;go_loopw [10,11] (fun k i wr=>∃j:Nat,j<=N/\i= .int .i64 j/\Hid (I j wr)) (fun _ i _=>N-(intOf i).toNat)
 case atStart=>exact⟨0,cG _,rfl,H1⟩
 case round=>
  obtain⟨j,hj,rfl,r⟩:=hrel;have g:=cb (HB.out j wr r.out);have ab:w.heap.size<=wr.heap.size:=g.out.size;by_cases d:j<N
  .obtain⟨D,e0,Z⟩:=Q.out j d;have HO:=cb (R.out j d);have p:=cb (S.out j d);have HR:Hid (wr.rangeAt b (o+j*18) (a j)):=fun m v hv=>(g.out.cell (p:=⟨b,o+j*18+m,none⟩) s).trans (Z m v hv)
   have HI:Hid ((prog.info? 95).map (·.size)=some (a j).length):=by rw[D];exact(show(prog.info? 95).map (·.size)=some 18 by kernel_rfl)
   rw[<-g.out.cell (p:=⟨b,o+j*18,none⟩) s]at e0;clear Z D;generalize a j=cs at*;generalize f j=k at*;by_cases E:l<=k
   .by_cases F:k<=h
    .by_cases H:k=n
     .have q:=cb (p.out (fun K=>K.2.2 H) wr r.out);clear HO p;go_wp2;go_roundw;case rel=>exact⟨j+1,by omega,by go_num,q⟩
      case measure=>simp[intOf];omega
     .have P:=cb (HO.out E F H wr r.out);clear HO p;go_wp2_with (show wpList _ _ _ ({dst:=_,op:=Op.load 95 _,type:=_,pos:=_,after:=_,guard:=_}::_) _ _;refine wpList_load_mid rfl 95 _ rfl b (o+j*18) rfl cs _ HR.out jw rfl HI.out ?_)
      go_at_call 40;refine P.out.mono ?_;rintro e w2 ⟨rfl,L⟩;have q:=cb L;clear L P;go_wp2;go_roundw;case rel=>exact⟨j+1,by omega,by go_num,q⟩
      case measure=>simp[intOf];omega
    .have q:=cb (p.out (fun K=>F K.2.1) wr r.out);clear HO p;go_wp2;go_roundw;case rel=>exact⟨j+1,by omega,by go_num,q⟩
     case measure=>simp[intOf];omega
   .have q:=cb (p.out (fun K=>E K.1) wr r.out);clear HO p;go_wp2;go_roundw;case rel=>exact⟨j+1,by omega,by go_num,q⟩
    case measure=>simp[intOf];omega
  .have V:j=N:=by omega
   subst V;have P:=cb (T.out wr r.out);go_wp2_with fail
   go_at_call 41;refine P.out.mono ?_;rintro e w2 ⟨rfl,M⟩;have HQ:=cb (U.out w2 M);clear M;go_wp2_with fail
   go_at_call 42;refine HQ.out.mono ?_;rintro e w3 ⟨rfl,O⟩;have HF:=cb O;clear O;go_wp2;go_ret;exact⟨rfl,HF.out⟩
theorem zD (l h n:Int)(w:World)(I:World->Prop)(J:World->Prop)(a:Calls prog 39 #[.pointer (some ⟨w.heap.size,0,none⟩),.int .i64 l,.int .i64 h] (w.alloc (.cells #[.slice none 0 0,.slice none 0 0,.slice none 0 0,.slice none 0 0,.slice none 0 0,.slice none 0 0,.int .i64 0] 87)) fun e w'=>e= .returned (.bool true)/\I w')(b:∀W,I W->Calls prog 41 #[.pointer (some ⟨w.heap.size,0,none⟩),.int .i64 l,.int .i64 h] W fun e c=>e= .returned (.bool true)/\J c)(d:∀W,J W->Calls prog 42 #[.pointer (some ⟨w.heap.size,0,none⟩)] W fun e c=>e= .returned (.bool true)/\Below w.heap.size w c):Calls prog 15 #[.slice none 0 0,.int .i64 l,.int .i64 h,.int .i64 n] w fun e w'=>e= .returned (.bool true)/\Below w.heap.size w w':=by
 have q:=cb a;have f:=cb b;have g:=cb d;go_enter func15,ntmps15;go_wp2_with fail
 refine q.out.mono ?_;rintro e z ⟨rfl,m⟩;have r:=cb m;go_wp2;go_loopw [10,11] (fun k i wr=>∃j:Nat,j<=0/\i= .int .i64 j/\Hid (I wr)) (fun _ i _=>0-(intOf i).toNat)
 case atStart=>exact⟨0,cG _,rfl,r⟩
 case round=>
  obtain⟨j,A,rfl,s⟩:=hrel;have t:j=0:=by omega
  have u:=cb (f.out wr s.out);go_wp2_with fail
  refine u.out.mono ?_;rintro e v ⟨rfl,o⟩;have x:=cb (g.out v o);go_wp2_with fail
  refine x.out.mono ?_;rintro e B ⟨rfl,p⟩;have y:=cb p;go_wp2;go_ret;exact⟨rfl,y.out⟩
end Go.Proofs.YtlonjggfnleolaaGreatDoor
