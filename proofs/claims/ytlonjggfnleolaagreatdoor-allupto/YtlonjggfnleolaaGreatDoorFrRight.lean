import Derived.Test.YtlonjggfnleolaaGreatDoorSpec
namespace Go.Proofs.YtlonjggfnleolaaGreatDoor
open Go.RowKit Go.Proofs.Tryz
set_option linter.unusedVariables false
set_option maxHeartbeats 4000000
set_option maxRecDepth 20000
variable {W:World}{b:Nat}{x:Obj}
def gV (w:World)(d:Nat)(v:Value)(a:List ByteArray):Prop:=
 (v= .slice none 0 0/\a=[])\/∃b c,v= .slice (some ⟨b,0,none⟩) a.length c/\d<=b/\gG w b c a
def kG (w w':World)(r:Option iC)(e:Ending):Prop:=
 match r with
 |none=>e= .returned kU
 |some s=>∃a,e= .returned (eK s.c.kind a s.c.val s.c.word s.c.fatal s.c.id s.used s.skip)/\gV w' w.heap.size a s.c.keys
theorem RN {T:Nat}{s:ByteArray}(h:W.heap[T]?=some (.cells #[.string s] 9 (0,0))):gG W T 1 [s]:=
 ⟨#[.string s],h,rfl,by simp,fun i x a=>by grind⟩
theorem fV {p:Addr}{v:Value}(h:W.heap[b]?=some x)(a:b≠p.block):(W.setCell p v).heap[b]?=some x:=(cz W p v b a).trans h
theorem dI (h:W.heap[b]?=some x)(o:Obj):(W.alloc o).heap[b]?=some x:=(cC W o b (cA h)).trans h
theorem iL (h:W.heap[b]?=some x)(n:Nat):(W.drewN n).heap[b]?=some x:=h
theorem gC (h:W.heap[b]?=some x):W.drew.heap[b]?=some x:=h
theorem fD (h:b=W.heap.size):(W.alloc x).heap[b]?=some x:=by rw[h];exact du W x
theorem BW {n:Nat}{w w':World}(h:Below n w w':=by repeat(first|with_reducible exact ct _ _|with_reducible refine dV ?_|with_reducible refine cV ?_ _|with_reducible refine dU ?_ (by simp;try omega) _|with_reducible refine dJ ?_ (by simp;try omega) _)):Below n w w':=h
theorem Iv {W:World}{b:Nat}{x:Obj}(h:W.heap[b]?=some x:=by repeat(first|with_reducible refine fV ?_ (by simp;try omega)|with_reducible refine iL ?_ _|with_reducible refine gC ?_|with_reducible exact fD (by simp)|with_reducible refine dI ?_ _)):W.heap[b]?=some x:=h
theorem zw (a:List UInt8)(w:World)(g o n c f i:Nat)(j:jZ w g o n c a)(Z:¬c=f)(x:f=7+ep a 2)(y:i=f+dM a 3)(R:7<=n)(C:iR a=true)(z:i<=n)(s:iX (bytesOf a 7 (ep a 2))=true):Calls prog 244 #[.agg #[],.slice (some ⟨g,o,none⟩) n c] w fun e w'=>(∃b,e= .returned (eK (ep a 1) (.slice (some ⟨b,0,none⟩) 1 1) (bytesOf a f (dM a 3)) ⟨#[]⟩ false (dM a 5) i false)/\w.heap.size<=b/\w'.heap[b]?=some (.cells #[.string (bytesOf a 7 (ep a 2))] 9 (0,0)))/\Below w.heap.size w w':=by
 have D:¬(n:Int)<7:=by omega
 have d:=PE w;have E:=cb (fun W (h:Below w.heap.size w W)=>nh g o n c a W (j.later h) R);rw[C]at E;obtain⟨F,H,pN⟩:=pQ C;have aa:=j.lt;have S:g<w.heap.size+1:=by omega
 have T:g<w.heap.size+1+1:=by omega
 have U:=j.cap;have c2:=j.Qb 2 (by omega);have c1:=j.Qb 1 (by omega);have ab:=j.small;have V:Hid (∀W:World,Below w.heap.size w W->∀p,2<=p->Calls prog 163 #[.slice (some ⟨g,o+3,none⟩) 2 p] W fun e w'=>e= .returned (.int .i64 (dM a 3))/\∃q,w'=W.drewN q):=fun W m p t=>
  oq g (o+3) p _ _ W (fL a 3) (fL a 4) t (j.later m).lt ((j.later m).Qb 3 (by omega)) ((j.later m).Qb 4 (by omega))
 have u:Hid (∀W:World,Below w.heap.size w W->∀p,2<=p->Calls prog 163 #[.slice (some ⟨g,o+5,none⟩) 2 p] W fun e w'=>e= .returned (.int .i64 (dM a 5))/\∃q,w'=W.drewN q):=fun W m p t=>
  oq g (o+5) p _ _ W (fL a 5) (fL a 6) t (j.later m).lt ((j.later m).Qb 5 (by omega)) ((j.later m).Qb 6 (by omega))
 have A:Hid (∀W,Below w.heap.size w W->∀v,(convert 80 9 (.slice (some ⟨g,o+7,none⟩) (ep a 2) v)).run prog W= .ok (.string (bytesOf a 7 (ep a 2))) W):=fun W m v=>oU W g o n c 7 (ep a 2) v a (j.later m) (by omega)
 have k:Hid (∀W,Below w.heap.size w W->∀v,(convert 80 9 (.slice (some ⟨g,o+f,none⟩) (i-f) v)).run prog W= .ok (.string (bytesOf a f (dM a 3))) W):=fun W m v=>by
  rw[show i-f=dM a 3 by omega];exact oU W g o n c f (dM a 3) v a (j.later m) (by omega)
 have B:(bytesOf a 7 (ep a 2)).size<=maxLen:=by
  show((a.drop 7).take (ep a 2)).toArray.size<=maxLen;unfold maxLen;simp;omega
 have J:=cb (fun W=>pT (bytesOf a 7 (ep a 2)) W B);clear B;rw[s]at J;clear j C s;have ac:=fL a 1;have k2:i<=c:=by omega
 have k3:7<=c:=by omega
 have K:=cb (cd x y);have he:¬(n:Int)<7+(ep a 2:Int)+(dM a 3:Int):=by omega
 have L:7+ep a 2<=c:=by omega
 have nc:¬c=3:=by omega
 have ad:¬c=7:=by omega
 have ae:¬c=5:=by omega
 have i1:(0:Int)<=(f:Int):=by omega
 have i2:(f:Int)<=(i:Int):=by omega
 have i3:(i:Int)<=(c:Int):=by omega
 have i4:(7:Int)<=(c:Int):=by omega
 have i5:(1:Int)<(n:Int):=by omega
 clear x y;generalize bytesOf a 7 (ep a 2)=af at*;generalize bytesOf a f (dM a 3)=l at*;generalize ep a 2=M at*;generalize ep a 1=r at*;generalize dM a 3=N at*;generalize dM a 5=I at*;have w2:IntKind.i64.wrap (M:Int)=M:=eM _ (by omega) (by omega);have O:IntKind.i64.wrap (r:Int)=r:=eM _ (by omega) (by omega);go_enter pL,oT;go_wp2_with fail
 go_at_call 246;refine(E.out _ (d.out _ _)).mono ?_;rintro e O ⟨rfl,q,rfl⟩;go_wp2_with fail
 go_at_call 163;refine(V.out _ (cV (d.out _ _) q) _ (by omega)).mono ?_;rintro e O ⟨rfl,q2,rfl⟩;have P:=A.out (((w.alloc (.cells #[] 161)).alloc (.cells #[.int .i64 0,.slice none 0 0,.string ⟨#[]⟩,.string ⟨#[]⟩,.bool false,.int .i64 0,.int .i64 0,.bool false] 255)).drewN (q+q2)) (cV (d.out _ _) _) (c-7);go_wp2_with fail
 go_at_call 50;refine(J.out _).mono ?_;rintro e O ⟨rfl,Q⟩;subst Q;clear P;go_wp2_with fail
 clear E V A J;have X:(7:Int)+(M:Int)=(f:Int):=by have:=K.out;omega
 have Y:(f:Int)+(N:Int)=(i:Int):=by have:=K.out;omega
 rw[X,Y];clear X Y he L F H pN R D z K;go_region_held3 (fun w'=>w'.cell? ⟨g,o+1,none⟩=some (.int .u8 r)/\(convert 80 9 (.slice (some ⟨g,o+f,none⟩) (i-f) (c-f))).run prog w'= .ok (.string l) w')
  ((refine⟨?_,?_⟩;(first|(go_keep)|(go_simp));(exact k.out _ BW _)))
  (first
   |(go_at_call 163;refine(u.out _ ?hx _ ?hy).mono ?_;(case hx=>exact BW);(case hy=>omega);rintro e w' ⟨rfl,q3,rfl⟩))
 all_goals go_wp2_with fail
 .clear u d k;refine cE (v:=eK r (.slice (some ⟨w.heap.size+1+1,0,none⟩) 1 1) l ⟨#[]⟩ false I i false) (by simp[results,results244,go_sem,eK]) rfl ⟨⟨_,rfl,by omega,?_⟩,?_⟩
  .exact Iv
  .exact BW
 .clear u d k;refine cE (v:=eK r (.slice (some ⟨w.heap.size+1+1,0,none⟩) 1 1) l ⟨#[]⟩ false I i false) (by simp[results,results244,go_sem,eK]) rfl ⟨⟨_,rfl,by omega,?_⟩,?_⟩
  .exact Iv
  .exact BW
 .clear u d k;refine cE (v:=eK r (.slice (some ⟨w.heap.size+1+1,0,none⟩) 1 1) l ⟨#[]⟩ false I i false) (by simp[results,results244,go_sem,eK]) rfl ⟨⟨_,rfl,by omega,?_⟩,?_⟩
  .exact Iv
  .exact BW
 .clear u d k;refine cE (v:=eK r (.slice (some ⟨w.heap.size+1+1+1,0,none⟩) 1 1) l ⟨#[]⟩ false I i false) (by simp[results,results244,go_sem,eK]) rfl ⟨⟨_,rfl,by omega,?_⟩,?_⟩
  .exact Iv
  .exact BW
 .clear u d k;refine cE (v:=eK r (.slice (some ⟨w.heap.size+1+1+1,0,none⟩) 1 1) l ⟨#[]⟩ false I i false) (by simp[results,results244,go_sem,eK]) rfl ⟨⟨_,rfl,by omega,?_⟩,?_⟩
  .exact Iv
  .exact BW
 .clear u d k;refine cE (v:=eK r (.slice (some ⟨w.heap.size+1+1+1,0,none⟩) 1 1) l ⟨#[]⟩ false I i false) (by simp[results,results244,go_sem,eK]) rfl ⟨⟨_,rfl,by omega,?_⟩,?_⟩
  .exact Iv
  .exact BW
theorem zx (a:List UInt8)(w:World)(g o c:Nat)(k:jZ w g o c c a)(t:c=7+ep a 2)(u:c=c+dM a 3)(P:7<=c)(z:iR a=true)(v:c<=c)(p:iX (bytesOf a 7 (ep a 2))=true):Calls prog 244 #[.agg #[],.slice (some ⟨g,o,none⟩) c c] w fun e w'=>(∃b,e= .returned (eK (ep a 1) (.slice (some ⟨b,0,none⟩) 1 1) (bytesOf a c (dM a 3)) ⟨#[]⟩ false (dM a 5) c false)/\w.heap.size<=b/\w'.heap[b]?=some (.cells #[.string (bytesOf a 7 (ep a 2))] 9 (0,0)))/\Below w.heap.size w w':=by
 have A:¬(c:Int)<7:=by omega
 have d:=PE w;have B:=cb (fun W (h:Below w.heap.size w W)=>nh g o c c a W (k.later h) P);rw[z]at B;obtain⟨C,D,X⟩:=pQ z;have Y:=k.lt;have Q:g<w.heap.size+1:=by omega
 have R:g<w.heap.size+1+1:=by omega
 have S:=k.cap;have c2:=k.Qb 2 (by omega);have c1:=k.Qb 1 (by omega);have Z:=k.small;have T:Hid (∀W:World,Below w.heap.size w W->∀l,2<=l->Calls prog 163 #[.slice (some ⟨g,o+3,none⟩) 2 l] W fun e w'=>e= .returned (.int .i64 (dM a 3))/\∃q,w'=W.drewN q):=fun W m l r=>
  oq g (o+3) l _ _ W (fL a 3) (fL a 4) r (k.later m).lt ((k.later m).Qb 3 (by omega)) ((k.later m).Qb 4 (by omega))
 have s:Hid (∀W:World,Below w.heap.size w W->∀l,2<=l->Calls prog 163 #[.slice (some ⟨g,o+5,none⟩) 2 l] W fun e w'=>e= .returned (.int .i64 (dM a 5))/\∃q,w'=W.drewN q):=fun W m l r=>
  oq g (o+5) l _ _ W (fL a 5) (fL a 6) r (k.later m).lt ((k.later m).Qb 5 (by omega)) ((k.later m).Qb 6 (by omega))
 have x:Hid (∀W,Below w.heap.size w W->∀E,(convert 80 9 (.slice (some ⟨g,o+7,none⟩) (ep a 2) E)).run prog W= .ok (.string (bytesOf a 7 (ep a 2))) W):=fun W m E=>oU W g o c c 7 (ep a 2) E a (k.later m) (by omega)
 have f:Hid (∀W,Below w.heap.size w W->(convert 80 9 (.slice (some ⟨g,o,none⟩) 0 0)).run prog W= .ok (.string (bytesOf a c (dM a 3))) W):=fun W _=>by
  have h0:dM a 3=0:=by omega
  rw[iY (P:=prog) W 80 5 fg kP g o 0 _ [] rfl (fun i hi=>by omega) 9 fi,h0];simp[bytesOf,strOfNums]
 have y:(bytesOf a 7 (ep a 2)).size<=maxLen:=by
  show((a.drop 7).take (ep a 2)).toArray.size<=maxLen;unfold maxLen;simp;omega
 have F:=cb (fun W=>pT (bytesOf a 7 (ep a 2)) W y);clear y;rw[p]at F;clear k z p;have aa:=fL a 1;have k1:c<=c:=by omega
 have k3:7<=c:=by omega
 have H:=cb (cd t u);have he:¬(c:Int)<7+(ep a 2:Int)+(dM a 3:Int):=by omega
 have J:7+ep a 2<=c:=by omega
 have nc:¬c=3:=by omega
 have ab:¬c=7:=by omega
 have ac:¬c=5:=by omega
 have i1:(0:Int)<=(c:Int):=by omega
 have i2:(c:Int)<=(c:Int):=by omega
 have i4:(7:Int)<=(c:Int):=by omega
 have i5:(1:Int)<(c:Int):=by omega
 clear t u;generalize bytesOf a 7 (ep a 2)=ad at*;generalize bytesOf a c (dM a 3)=j at*;generalize ep a 2=K at*;generalize ep a 1=n at*;generalize dM a 3=N at*;generalize dM a 5=I at*;have w2:IntKind.i64.wrap (K:Int)=K:=eM _ (by omega) (by omega);have L:IntKind.i64.wrap (n:Int)=n:=eM _ (by omega) (by omega);go_enter pL,oT;go_wp2_with fail
 go_at_call 246;refine(B.out _ (d.out _ _)).mono ?_;rintro e L ⟨rfl,q,rfl⟩;go_wp2_with fail
 go_at_call 163;refine(T.out _ (cV (d.out _ _) q) _ (by omega)).mono ?_;rintro e L ⟨rfl,q2,rfl⟩;have M:=x.out (((w.alloc (.cells #[] 161)).alloc (.cells #[.int .i64 0,.slice none 0 0,.string ⟨#[]⟩,.string ⟨#[]⟩,.bool false,.int .i64 0,.int .i64 0,.bool false] 255)).drewN (q+q2)) (cV (d.out _ _) _) (c-7);go_wp2_with fail
 go_at_call 50;refine(F.out _).mono ?_;rintro e L ⟨rfl,O⟩;subst O;clear M;go_wp2_with fail
 clear B T x F;have U:(7:Int)+(K:Int)=(c:Int):=by have:=H.out;omega
 have V:(c:Int)+(N:Int)=(c:Int):=by have:=H.out;omega
 rw[U,V];clear U V he J C D X P A v H;go_region_held3 (fun w'=>w'.cell? ⟨g,o+1,none⟩=some (.int .u8 n)/\(convert 80 9 (.slice (some ⟨g,o,none⟩) 0 0)).run prog w'= .ok (.string j) w')
  ((refine⟨?_,?_⟩;(first|(go_keep)|(go_simp));(exact f.out _ BW)))
  (first
   |(go_at_call 163;refine(s.out _ ?hx _ ?hy).mono ?_;(case hx=>exact BW);(case hy=>omega);rintro e w' ⟨rfl,q3,rfl⟩))
 all_goals go_wp2_with fail
 .clear s d f;refine cE (v:=eK n (.slice (some ⟨w.heap.size+1+1,0,none⟩) 1 1) j ⟨#[]⟩ false I c false) (by simp[results,results244,go_sem,eK]) rfl ⟨⟨_,rfl,by omega,?_⟩,?_⟩
  .exact Iv
  .exact BW
 .clear s d f;refine cE (v:=eK n (.slice (some ⟨w.heap.size+1+1,0,none⟩) 1 1) j ⟨#[]⟩ false I c false) (by simp[results,results244,go_sem,eK]) rfl ⟨⟨_,rfl,by omega,?_⟩,?_⟩
  .exact Iv
  .exact BW
 .clear s d f;refine cE (v:=eK n (.slice (some ⟨w.heap.size+1+1,0,none⟩) 1 1) j ⟨#[]⟩ false I c false) (by simp[results,results244,go_sem,eK]) rfl ⟨⟨_,rfl,by omega,?_⟩,?_⟩
  .exact Iv
  .exact BW
 .clear s d f;refine cE (v:=eK n (.slice (some ⟨w.heap.size+1+1+1,0,none⟩) 1 1) j ⟨#[]⟩ false I c false) (by simp[results,results244,go_sem,eK]) rfl ⟨⟨_,rfl,by omega,?_⟩,?_⟩
  .exact Iv
  .exact BW
 .clear s d f;refine cE (v:=eK n (.slice (some ⟨w.heap.size+1+1+1,0,none⟩) 1 1) j ⟨#[]⟩ false I c false) (by simp[results,results244,go_sem,eK]) rfl ⟨⟨_,rfl,by omega,?_⟩,?_⟩
  .exact Iv
  .exact BW
 .clear s d f;refine cE (v:=eK n (.slice (some ⟨w.heap.size+1+1+1,0,none⟩) 1 1) j ⟨#[]⟩ false I c false) (by simp[results,results244,go_sem,eK]) rfl ⟨⟨_,rfl,by omega,?_⟩,?_⟩
  .exact Iv
  .exact BW
theorem Ex (g o n c:Nat)(a:List UInt8)(w:World)(f:jZ w g o n c a):Calls prog 244 #[.agg #[],.slice (some ⟨g,o,none⟩) n c] w fun e w'=>kG w w' (uN a) e/\Below w.heap.size w w':=by
 have v:=f.len;unfold uN;by_cases p:a.length<7
 .rw[cN p];exact uX g o n c _ w (by omega)
 rw[cD p];cases i:iR a with
 |false=>
  refine(Ey g o n c a w f (by omega) i).mono ?_;rintro e w' ⟨d,j⟩;exact⟨⟨_,d,.inl ⟨rfl,rfl⟩⟩,j⟩
 |true=>
  by_cases d:a.length<7+ep a 2+dM a 3
  .rw[cN d];exact CH g o n c a w f (by omega) i (by omega)
  .rw[cD d];cases l:iX (bytesOf a 7 (ep a 2))with
   |false=>
    refine(zv g o n c a w f (by omega) i (by omega) l).mono ?_;rintro e w' ⟨d,j⟩;refine⟨⟨_,d.trans ?_,.inl ⟨rfl,rfl⟩⟩,j⟩;simp[fj,eY,fU]
   |true=>
    have k:∀e w',(∃b,e= .returned (eK (ep a 1) (.slice (some ⟨b,0,none⟩) 1 1) (bytesOf a (7+ep a 2) (dM a 3)) ⟨#[]⟩ false (dM a 5) (7+ep a 2+dM a 3:Nat) false)/\w.heap.size<=b/\w'.heap[b]?=some (.cells #[.string (bytesOf a 7 (ep a 2))] 9 (0,0)))/\Below w.heap.size w w'->
     kG w w' (some ⟨⟨ep a 1,[bytesOf a 7 (ep a 2)],bytesOf a (7+ep a 2) (dM a 3),eY,false,dM a 5⟩,7+ep a 2+dM a 3,false⟩) e/\Below w.heap.size w w':=by
     rintro e w' ⟨⟨b,d,j,s⟩,m⟩
     exact⟨⟨_,d,.inr ⟨b,1,rfl,j,RN s⟩⟩,m⟩
    by_cases q:c=7+ep a 2
    .have r:=f.cap;have t:n=7+ep a 2:=by omega
     subst q;subst t;refine(zx a w g o (7+ep a 2) f rfl (by omega) (by omega) i (by omega) l).mono ?_;intro e w' h;apply k;have u:7+ep a 2+dM a 3=7+ep a 2:=by omega
     rw[u];exact h
    .exact(zw a w g o n c (7+ep a 2) (7+ep a 2+dM a 3) f q rfl rfl (by omega) i (by omega) l).mono k
end Go.Proofs.YtlonjggfnleolaaGreatDoor
