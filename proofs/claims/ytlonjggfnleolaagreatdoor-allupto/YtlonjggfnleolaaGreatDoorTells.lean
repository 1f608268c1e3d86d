import Derived.Test.YtlonjggfnleolaaGreatDoorPlTell
set_option linter.unusedVariables false
set_option maxHeartbeats 2000000
set_option maxRecDepth 20000
namespace Go.Proofs.YtlonjggfnleolaaGreatDoor
open Go.RowKit Go.Proofs.Tryz
def AV (a:Int):Int:=if a=5 then 2 else if a=4 then 1 else 0
theorem NS (a:Int):0<=AV a/\AV a<256:=by unfold AV;split;omega;split<;>omega
theorem Qx (a:Int)(f g:Value)(h:ByteArray)(w:World)(j:a≠1):Calls prog 248 #[eW a f g h] w fun e w'=>e= .returned (.int .i64 (AV a))/\Below w.heap.size w w':=by
 unfold eW;have b:=cb (show∀x,Below w.heap.size w (w.alloc x)from fun x=>cU);have k:(a==1)=false:=by grind
 by_cases c:a=5
 .subst c;go_wp2;go_ret;exact⟨rfl,b.out _⟩
 .have l:(a==5)=false:=by simp_all
  by_cases d:a=4
  .subst d;go_wp2;go_ret;exact⟨rfl,b.out _⟩
  .have m:(a==4)=false:=by grind
   have i:=cb (show AV a=0 by unfold AV;rw[cD c,cD d]);go_wp2;go_ret;exact⟨by rw[i.out];rfl,b.out _⟩
theorem Qw (f:Bool)(b o c n:Nat)(d:Value)(g:ByteArray)(w:World)(h:1<=n)(i:n<=c)(hb:b<w.heap.size)(j:w.cell? ⟨b,o,none⟩=some (.bool f)):Calls prog 248 #[eW 1 (.slice (some ⟨b,o,none⟩) n c) d g] w fun e w'=>e= .returned (.int .i64 (bif f then 0 else 1))/\Below w.heap.size w w':=by
 unfold eW;have a:=cb (show∀x,Below w.heap.size w (w.alloc x)from fun x=>cU);cases f with
 |true=>
  go_wp2;go_ret;exact⟨rfl,a.out _⟩
 |false=>
  go_wp2;go_ret;exact⟨rfl,a.out _⟩
def QA (a id:Int):Int:=if a=4 then 0 else id
theorem rR (g:Int)(u:Value)(k v:ByteArray)(A:Bool)(l:Int)(c:Int)(m n:Value)(o:ByteArray)(id:Int)(w:World)(r:c≠1)(B:0<=id)(C:id<=65535):Calls prog 245 #[.agg #[],db g u k v A l,eW c m n o,.int .i64 id] w fun e w'=>e= .returned (.string (gO 2 (AV c) 0 0 (QA g id)))/\Below w.heap.size w w':=by
 have h:=cb (show∀x y z,Below w.heap.size w (((w.alloc x).alloc y).alloc z)from fun x y z=>(cU.alloc (by simp) _).alloc (by simp;omega) _);have s:Hid (∀W,Calls prog 248 #[eW c m n o] W fun e w'=>e= .returned (.int .i64 (AV c))/\Below W.heap.size W w'):=fun W=>Qx c m n o W r
 have H:=NS c;have D:(gO 2 (AV c) 0 0 (QA g id)).size=7:=by unfold gO;rfl
 have I:(c==1)=false:=by simpa using r
 have t:Hid (∀i W,0<=i->i<=65535->Calls prog 180 #[.int .i64 2,.int .i64 (AV c),.int .i64 0,.int .i64 0,.int .i64 i] W fun e w'=>e= .returned (.string (gO 2 (AV c) 0 0 i))/\Below W.heap.size W w'):=fun i W a b=>we 2 (AV c) 0 0 i W (by omega) (by omega) (by omega) (by omega) (by omega)
 unfold db eW at*;by_cases p:g=4
 .subst p;have e:QA 4 id=0:=rfl;go_enter func245,ntmps245;go_wp2_with fail
  refine(s.out _).mono ?_;rintro e E ⟨rfl,d⟩;have j:=cb ((h.out _ _ _).trans (d.mono (by simp;omega)));go_wp2_with fail
  refine(t.out 0 _ (by omega) (by omega)).mono ?_;rintro e F ⟨rfl,f⟩;have q:=cb (j.out.trans (f.mono j.out.size));go_wp2;go_ret;exact⟨ir rfl,q.out⟩
 .have J:(g==4)=false:=by simpa using p
  have e:QA g id=id:=by unfold QA;rw[cD p]
  rw[e]at*;go_enter func245,ntmps245;go_wp2_with fail
  refine(s.out _).mono ?_;rintro e E ⟨rfl,d⟩;have j:=cb ((h.out _ _ _).trans (d.mono (by simp;omega)));go_wp2_with fail
  refine(t.out id _ B C).mono ?_;rintro e F ⟨rfl,f⟩;have q:=cb (j.out.trans (f.mono j.out.size));go_wp2;go_ret;exact⟨ir rfl,q.out⟩
theorem uY (s:Value)(i t:ByteArray)(u:Bool)(j:Int)(f:Bool)(x:ByteArray)(a c h b k l:Nat)(m:ByteArray)(id:Int)(w:World)(H:0<=id)(I:id<=65535)(J:x.size<=40)(n:1<=h)(v:1<=l)(d:a<w.heap.size)(A:b<w.heap.size)(B:w.cell? ⟨a,c,none⟩=some (.bool f))(K:w.cell? ⟨b,k,none⟩=some (.string x)):Calls prog 245 #[.agg #[],db 1 s i t u j,eW 1 (.slice (some ⟨a,c,none⟩) 1 h) (.slice (some ⟨b,k,none⟩) 1 l) m,.int .i64 id] w fun e w'=>e= .returned (.string (gO 2 (bif f then 0 else 1) 0 x.size id++x))/\Below w.heap.size w w':=by
 have g:=cb (show∀x y z,Below w.heap.size w (((w.alloc x).alloc y).alloc z)from fun x y z=>(cU.alloc (by simp) _).alloc (by simp;omega) _);have C:Hid (∀W,Below w.heap.size w W->Calls prog 248 #[eW 1 (.slice (some ⟨a,c,none⟩) 1 h) (.slice (some ⟨b,k,none⟩) 1 l) m] W fun e w'=>e= .returned (.int .i64 (bif f then 0 else 1))/\Below W.heap.size W w'):=fun W q=>Qw f a c h 1 _ m W (by omega) n (cH d q.size) ((q.cell (p:=⟨a,c,none⟩) d).trans B)
 have L:0<=(bif f then(0:Int)else 1)/\(bif f then(0:Int)else 1)<256:=by cases f<;>simp
 have D:(gO 2 (bif f then 0 else 1) 0 x.size id).size=7:=by unfold gO;rfl
 have M:¬9223372036854775807<7+x.size:=by omega
 have E:Hid (∀W,Calls prog 180 #[.int .i64 2,.int .i64 (bif f then 0 else 1),.int .i64 0,.int .i64 x.size,.int .i64 id] W fun e w'=>e= .returned (.string (gO 2 (bif f then 0 else 1) 0 x.size id))/\Below W.heap.size W w'):=fun W=>we 2 (bif f then 0 else 1) 0 x.size id W (by omega) (by omega) (by omega) (by omega) (by omega)
 have N:b<w.heap.size+1:=by omega
 have O:b<w.heap.size+1+1:=by omega
 unfold db eW at*;go_enter func245,ntmps245;go_wp2_with fail
 refine(C.out _ (g.out _ _ _)).mono ?_;rintro e P ⟨rfl,o⟩;have r:=cb ((g.out _ _ _).trans (o.mono (by simp;omega)));go_wp2_with fail
 refine(E.out _).mono ?_;rintro e Q ⟨rfl,p⟩;have F:=cb (r.out.trans (p.mono r.out.size));go_wp2;go_ret;exact⟨ir rfl,F.out⟩
theorem pD (d:Int)(l m:Value)(n:ByteArray)(id:Int)(w:World)(o:d≠1)(q:0<=id)(r:id<=65535):Calls prog 146 #[eW d l m n,.int .i64 id] w fun e w'=>e= .returned (.string (gO 2 (AV d) 0 0 id))/\Below w.heap.size w w':=by
 have g:=cb (show∀x,Below w.heap.size w (w.alloc x)from fun x=>cU);have h:Hid (∀S W,0<=S->S<256->Calls prog 141 #[.int .i64 2,.int .i64 S,.int .i64 0,.int .i64 0,.int .i64 id] W fun e w'=>e= .returned (.string (gO 2 S 0 0 id))/\Below W.heap.size W w'):=fun S W a b=>vd 2 S 0 0 id W (by omega) (by omega) (by omega) (by omega) (by omega)
 have s:(d==1)=false:=by simpa using o
 unfold eW at*;by_cases i:d=5
 .subst i;go_enter func146,ntmps146;go_wp2_with fail
  refine(h.out 2 _ (by omega) (by omega)).mono ?_;rintro e k ⟨rfl,c⟩;have f:=cb ((g.out _).trans (c.mono (by simp)));go_wp2;go_ret;exact⟨ir rfl,f.out⟩
 .have t:(d==5)=false:=by simpa using i
  by_cases j:d=4
  .subst j;go_enter func146,ntmps146;go_wp2_with fail
   refine(h.out 1 _ (by omega) (by omega)).mono ?_;rintro e k ⟨rfl,c⟩;have f:=cb ((g.out _).trans (c.mono (by simp)));go_wp2;go_ret;exact⟨ir rfl,f.out⟩
  .have u:(d==4)=false:=by simpa using j
   have p:=cb (show AV d=0 by unfold AV;rw[cD i,cD j]);go_enter func146,ntmps146;go_wp2_with fail
   refine(h.out 0 _ (by omega) (by omega)).mono ?_;rintro e k ⟨rfl,c⟩;have f:=cb ((g.out _).trans (c.mono (by simp)));go_wp2;go_ret;exact⟨ir (by rw[p.out]),f.out⟩
theorem BK (a c d:Nat)(f:Value)(g:ByteArray)(id:Int)(w:World)(m:0<=id)(n:id<=65535)(h:1<=d)(i:a<w.heap.size)(o:w.cell? ⟨a,c,none⟩=some (.bool false)):Calls prog 146 #[eW 1 (.slice (some ⟨a,c,none⟩) 1 d) f g,.int .i64 id] w fun e w'=>e= .returned (.string (gO 2 1 0 0 id))/\Below w.heap.size w w':=by
 have j:=cb (show∀x,Below w.heap.size w (w.alloc x)from fun x=>cU);have k:Hid (∀W,Calls prog 141 #[.int .i64 2,.int .i64 1,.int .i64 0,.int .i64 0,.int .i64 id] W fun e w'=>e= .returned (.string (gO 2 1 0 0 id))/\Below W.heap.size W w'):=fun W=>vd 2 1 0 0 id W (by omega) (by omega) (by omega) (by omega) (by omega)
 unfold eW at*;go_enter func146,ntmps146;go_wp2_with fail
 refine(k.out _).mono ?_;rintro e p ⟨rfl,b⟩;have l:=cb ((j.out _).trans (b.mono (by simp)));go_wp2;go_ret;exact⟨ir rfl,l.out⟩
theorem zJ (x:ByteArray)(d h i b c f:Nat)(j:ByteArray)(id:Int)(w:World)(t:0<=id)(u:id<=65535)(v:x.size<=40)(k:1<=i)(l:1<=f)(m:d<w.heap.size)(n:b<w.heap.size)(y:w.cell? ⟨d,h,none⟩=some (.bool true))(z:w.cell? ⟨b,c,none⟩=some (.string x)):Calls prog 146 #[eW 1 (.slice (some ⟨d,h,none⟩) 1 i) (.slice (some ⟨b,c,none⟩) 1 f) j,.int .i64 id] w fun e w'=>e= .returned (.string (gO 2 0 0 x.size id++x))/\Below w.heap.size w w':=by
 have o:=cb (show∀x,Below w.heap.size w (w.alloc x)from fun x=>cU);have p:Hid (∀W,Calls prog 141 #[.int .i64 2,.int .i64 0,.int .i64 0,.int .i64 x.size,.int .i64 id] W fun e w'=>e= .returned (.string (gO 2 0 0 x.size id))/\Below W.heap.size W w'):=fun W=>vd 2 0 0 x.size id W (by omega) (by omega) (by omega) (by omega) (by omega)
 have q:(gO 2 0 0 x.size id).size=7:=by unfold gO;rw[qC];rfl
 have A:¬9223372036854775807<7+x.size:=by omega
 unfold eW at*;have B:b<w.heap.size+1:=by omega
 go_wp2;go_region_held3 (fun w'=>w'.cell? ⟨w.heap.size,2,none⟩=some (.slice (some ⟨b,c,none⟩) 1 f)/\w'.cell? ⟨b,c,none⟩=some (.string x)) (go_keep)
  (first|(go_at_call 141;refine(p.out _).mono ?_;rintro e C ⟨rfl,a⟩;have r:=(a.cell (p:=⟨w.heap.size,2,none⟩) (by simp));have s:=(a.cell (p:=⟨b,c,none⟩) (by simp;omega));have g:=FT a;clear a))
 all_goals
  go_wp2
  go_ret
  exact⟨ir rfl,(cV (o.out _) _).trans (g.out.mono (by simp))⟩
variable {p:Bool×ByteArray×ByteArray}
def Cc (p:Bool×ByteArray×ByteArray):ByteArray:=bif p.1 then⟨#[118,97,108,117,101,32]⟩++p.2.1++⟨#[32]⟩++sizedB p.2.2 else⟨#[]⟩
def iM (a:List (Bool×ByteArray×ByteArray)):ByteArray:=a.foldl (fun s p=>s++Cc p) ⟨#[]⟩
theorem Qt (b:p.2.1.size<=8)(a:p.2.2.size<=40):(Cc p).size<=59:=by
 have:=kZ a;have c:(ByteArray.mk #[118,97,108,117,101,32]).size=6:=rfl;have d:(ByteArray.mk #[32]).size=1:=rfl;unfold Cc;cases p.1
 .exact cG _
 .show(_++_++_++_:ByteArray).size<=_;rw[cR,cR,cR];omega
theorem rV (a:ByteArray)(b:List (Bool×ByteArray×ByteArray))(h:∀p∈b,p.2.1.size<=8/\p.2.2.size<=40):(b.foldl (fun s p=>s++Cc p) a).size<=a.size+59*b.length:=by
 induction b generalizing a with
 |nil=>simp
 |cons x t d=>
  have e:=d (a++Cc x) (fun s f=>h s (cJ _ f));have c:=h x (jS ..);have g:=Qt c.1 c.2;rw[cR]at e;rw[nt,dc];omega
theorem wX {a:List (Bool×ByteArray×ByteArray)}{j:Nat}(h:a[j]?=some p):iM (a.take (j+1))=iM (a.take j)++Cc p:=by
 rw[eV,h];simp[iM,List.foldl_append]
theorem yQ (a E B:Option Addr)(n c C D:Nat)(d:List ByteArray)(l:List Bool)(g:List ByteArray)(m F:ByteArray)(H:Bool)(o:Int)(I:ByteArray)(w:World)(J:dH w a n c d)(t:eZ w E n C l)(K:dH w B n D g)(hn:n<=4)(z:∀s∈d,s.size<=8)(r:∀s∈g,s.size<=40):Calls prog 145 #[db 1 (.slice a n c) m F H o,eW 1 (.slice E n C) (.slice B n D) I] w fun e w'=>e= .returned (.string (iM (l.zip (d.zip g))++⟨#[101,110,100,10]⟩))/\Below w.heap.size w w':=by
 have u:=PE w;have hc:=J.cap;have ag:=t.cap;have ah:=K.cap;have L:=cb (fun x y=>(J.later (u.out x y)).at);have M:=cb (fun x y=>(t.later (u.out x y)).at);have N:=cb (fun x y=>(K.later (u.out x y)).at);have X:=cb J.len;have O:=cb t.len;have Y:=cb K.len;have Z:=cb z;have P:=cb r;have HQ:Hid (∀(x:ByteArray) (W:World),x.size<100->Calls prog 142 #[.int .i64 x.size] W fun e w'=>e= .returned (.string (gh x.size))/\∃q,w'=W.drewN q):=fun x W h=>mu x.size W h
 have Q:∀j:Nat,(iM ((l.zip (d.zip g)).take j)).size<=236:=fun j=>by
  have h1:=rV ⟨#[]⟩ ((l.zip (d.zip g)).take j) (fun p hp=>by
   have hp:=fH hp;have h2:=(gw hp).2;exact⟨z _ (gw h2).1,r _ (gw h2).2⟩)
  have h2:((l.zip (d.zip g)).take j).length<=4:=by simp[J.len,t.len,K.len];omega
  have e0:(ByteArray.mk #[]).size=0:=rfl;unfold iM;omega
 have aa:=cb Q;clear J t K z r Q;have HZ:Hid (∀(j:Nat) f k v,l[j]?=some f->d[j]?=some k->g[j]?=some v->(l.zip (d.zip g))[j]?=some (f,k,v)):=fun j f k v a b c=>by
  rw[et];exact⟨a,by rw[et];exact⟨b,c⟩⟩
 have ab:Hid ((l.zip (d.zip g)).take n=l.zip (d.zip g)):=dt (by simp;have:=O.out;omega);generalize l.zip (d.zip g)=R at*;unfold db eW at*;go_wp2;go_loopw [5,6] (fun s i wr=>∃j q:Nat,j<=n/\i= .int .i64 j/\s= .string (iM (R.take j))/\wr=((w.alloc (.cells #[.int .i64 1,.slice a n c,.string m,.string F,.bool H,.int .i64 o] 36)).alloc (.cells #[.int .i64 1,.slice E n C,.slice B n D,.string I] 91)).drewN q) (fun _ i _=>n-(intOf i).toNat)
 case atStart=>exact⟨0,0,cG _,rfl,rfl,rfl⟩
 case round=>
  obtain⟨j,q,hj,rfl,rfl,rfl⟩:=hrel;have ai:=aa.out j;by_cases A:j<n
  .obtain⟨k,T⟩:∃x,d[j]?=some x:=⟨d[j]'(by rw[X.out];exact A),cp _⟩
   obtain⟨f,t⟩:∃x,l[j]?=some x:=⟨l[j]'(by rw[O.out];exact A),cp _⟩
   obtain⟨x,U⟩:∃x,g[j]?=some x:=⟨g[j]'(by rw[Y.out];exact A),cp _⟩
   have V:=cb (wX (HZ.out j f k x t T U));have hm:=Z.out k (cu T);have ad:=P.out x (cu U);obtain⟨kb,ko,rfl,aj,ak⟩:=L.out (.cells #[.int .i64 1,.slice a n c,.string m,.string F,.bool H,.int .i64 o] 36) (.cells #[.int .i64 1,.slice E n C,.slice B n D,.string I] 91) j k T;obtain⟨fb,fo,rfl,al,ae⟩:=M.out (.cells #[.int .i64 1,.slice (some ⟨kb,ko,none⟩) n c,.string m,.string F,.bool H,.int .i64 o] 36) (.cells #[.int .i64 1,.slice E n C,.slice B n D,.string I] 91) j f t;obtain⟨vb,vo,rfl,am,af⟩:=N.out (.cells #[.int .i64 1,.slice (some ⟨kb,ko,none⟩) n c,.string m,.string F,.bool H,.int .i64 o] 36) (.cells #[.int .i64 1,.slice (some ⟨fb,fo,none⟩) n C,.slice B n D,.string I] 91) j x U
   clear T t U L M N HZ;have dz:=fT x.size;generalize iM (R.take j)=S at*;cases f with
   |true=>
    have HY:=cb (show S++⟨#[118,97,108,117,101,32]⟩++k++⟨#[32]⟩++gh x.size++⟨#[10]⟩++x++⟨#[10]⟩=iM (R.take (j+1))by rw[V.out];simp[Cc,sizedB,ByteArray.append_assoc]);clear V;have g1:¬9223372036854775807<S.size+6:=by omega
    have g2:¬9223372036854775807<S.size+6+k.size:=by omega
    have g3:¬9223372036854775807<S.size+6+k.size+1:=by omega
    have g4:¬9223372036854775807<S.size+6+k.size+1+(gh x.size).size:=by omega
    have g5:¬9223372036854775807<S.size+6+k.size+1+(gh x.size).size+1:=by omega
    have g6:¬9223372036854775807<S.size+6+k.size+1+(gh x.size).size+1+x.size:=by omega
    have g7:¬9223372036854775807<S.size+6+k.size+1+(gh x.size).size+1+x.size+1:=by omega
    go_wp2;go_quiet ((go_at_call 142;refine(HQ.out x _ (by omega)).mono ?_;rintro e w9 ⟨rfl,m9,rfl⟩;refine⟨rfl,?_⟩;simp only[World.drewN_drewN,Nat.add_assoc];exact⟨_,rfl⟩))
    go_wp2;go_round
    case rel=>exact⟨j+1,_,by omega,by go_num,by rw[HY.out],rfl⟩
    case measure=>simp[intOf];omega
   |false=>
    have HY:=cb (show S=iM (R.take (j+1))by rw[V.out];apply qm;simp[Cc]);clear V;go_wp2;go_round
    case rel=>exact⟨j+1,_,by omega,by go_num,by rw[HY.out],rfl⟩
    case measure=>simp[intOf];omega
  .have ac:j=n:=by omega
   subst ac;go_wp2;go_ret;exact⟨ir (by rw[ab.out]),cV (u.out _ _) _⟩
variable {p:Bool×ByteArray}
def Na (p:Bool×ByteArray):ByteArray:=bif p.1 then nm p.2 else⟨#[36,45,49,10]⟩
def gn (a:List (Bool×ByteArray)):ByteArray:=a.foldl (fun s p=>s++Na p) ⟨#[]⟩
def lL (n:Nat)(a:List (Bool×ByteArray)):ByteArray:=if n=1 then gn a else⟨#[42]⟩++gh n++⟨#[10]⟩++gn a
theorem DL (a:p.2.size<=40):(Na p).size<=45:=by
 have:=oQ a;unfold Na;cases p.1
 .show(ByteArray.mk #[36,45,49,10]).size<=45;decide
 .exact this
theorem rX (a:ByteArray)(b:List (Bool×ByteArray))(h:∀p∈b,p.2.size<=40):(b.foldl (fun s p=>s++Na p) a).size<=a.size+45*b.length:=by
 induction b generalizing a with
 |nil=>simp
 |cons x t c=>
  have d:=c (a++Na x) (fun s e=>h s (cJ _ e));have f:=DL (h x (jS ..));rw[cR]at d;rw[nt,dc];omega
theorem sZ {a:List (Bool×ByteArray)}{j:Nat}(h:a[j]?=some p):gn (a.take (j+1))=gn (a.take j)++Na p:=by
 rw[eV,h];simp[gn,List.foldl_append]
theorem yR (E m:Option Addr)(n o r:Nat)(d:List Bool)(b:List ByteArray)(F:ByteArray)(w:World)(h:eZ w E n o d)(t:dH w m n r b)(hn:n<=4)(g:∀s∈b,s.size<=40):Calls prog 147 #[eW 1 (.slice E n o) (.slice m n r) F] w fun e w'=>e= .returned (.string (lL n (d.zip b)))/\Below w.heap.size w w':=by
 have H:=cb (show∀x,Below w.heap.size w (w.alloc x)from fun x=>cU);have U:=h.cap;have V:=t.cap;have u:=cb (fun x=>(h.later (H.out x)).at);have y:=cb (fun x=>(t.later (H.out x)).at);have z:=cb h.len;have J:=cb t.len;have A:=cb g;have X:Hid (∀(x:ByteArray) (W:World),x.size<100->Calls prog 143 #[.string x] W fun e w'=>e= .returned (.string (nm x))/\∃q,w'=W.drewN q):=fun x W l=>xc x W l
 have Y:Hid (∀W:World,Calls prog 142 #[.int .i64 n] W fun e w'=>e= .returned (.string (gh n))/\∃q,w'=W.drewN q):=fun W=>mu n W (by omega)
 have B:∀j:Nat,(gn ((d.zip b).take j)).size<=180:=fun j=>by
  have K:=rX ⟨#[]⟩ ((d.zip b).take j) (fun p Z=>g _ (gw (fH Z)).2);have h2:((d.zip b).take j).length<=4:=by simp[h.len,t.len];omega
  have e0:(ByteArray.mk #[]).size=0:=rfl;unfold gn;omega
 have L:=cb B;clear h t g B;have P:Hid (∀(j:Nat) f v,d[j]?=some f->b[j]?=some v->(d.zip b)[j]?=some (f,v)):=fun j f v a c=>by
  rw[et];exact⟨a,c⟩
 have C:Hid ((d.zip b).take n=d.zip b):=dt (by simp;have:=z.out;omega);generalize d.zip b=k at*;unfold eW at*;go_wp2;go_loopw [3,4] (fun s i wr=>∃j q:Nat,j<=n/\i= .int .i64 j/\s= .string (gn (k.take j))/\wr=(w.alloc (.cells #[.int .i64 1,.slice E n o,.slice m n r,.string F] 91)).drewN q) (fun _ i _=>n-(intOf i).toNat)
 case atStart=>exact⟨0,0,cG _,rfl,rfl,rfl⟩
 case round=>
  obtain⟨j,q,hj,rfl,rfl,rfl⟩:=hrel;have aa:=L.out j;by_cases D:j<n
  .obtain⟨f,h⟩:∃x,d[j]?=some x:=⟨d[j]'(by rw[z.out];exact D),cp _⟩
   obtain⟨x,l⟩:∃x,b[j]?=some x:=⟨b[j]'(by rw[J.out];exact D),cp _⟩
   have I:=cb (sZ (P.out j f x h l));have Q:=A.out x (cu l);obtain⟨fb,fo,rfl,ab,R⟩:=u.out (.cells #[.int .i64 1,.slice E n o,.slice m n r,.string F] 91) j f h;obtain⟨vb,vo,rfl,ac,T⟩:=y.out (.cells #[.int .i64 1,.slice (some ⟨fb,fo,none⟩) n o,.slice m n r,.string F] 91) j x l;clear h l u y P;have tx:=oQ (s:=x) (by omega);generalize gn (k.take j)=S at*;cases f with
   |true=>
    have M:=cb (show S++nm x=gn (k.take (j+1))by rw[I.out];rfl);clear I;go_wp2_with fail
    go_at_call 143;refine(X.out x _ (by omega)).mono ?_;rintro e w4 ⟨rfl,q4,rfl⟩;go_wp2;go_round
    case rel=>exact⟨j+1,_,by omega,by go_num,by rw[M.out],rfl⟩
    case measure=>simp[intOf];omega
   |false=>
    have M:=cb (show S++⟨#[36,45,49,10]⟩=gn (k.take (j+1))by rw[I.out];rfl);clear I;go_wp2;go_round
    case rel=>exact⟨j+1,_,by omega,by go_num,by rw[M.out],rfl⟩
    case measure=>simp[intOf];omega
  .have N:j=n:=by omega
   subst N;by_cases K:j=1
   .subst K;have O:=cb (show gn (k.take 1)=lL 1 k by unfold lL;rw[cN rfl,C.out]);go_wp2;go_ret;exact⟨ir O.out,cV (H.out _) _⟩
   .have ad:((j:Int)==1)=false:=by simp;omega
    have O:=cb (show⟨#[42]⟩++gh j++⟨#[10]⟩++gn (k.take j)=lL j k by unfold lL;rw[cD K,C.out]);have dz:=fT j;go_wp2_with fail
    go_at_call 142;refine(Y.out _).mono ?_;rintro e w4 ⟨rfl,q4,rfl⟩;go_wp2;go_ret;exact⟨ir O.out,cV (H.out _) _⟩
theorem PA {w:World}{a l p:Option Addr}{n c o m q r:Nat}{s u:List ByteArray}{t:List Bool}{b j:ByteArray}(g:Int)(i:ByteArray)(h:Bool)(f k:Int)(v:dH w a n c s)(d:b.size<=maxLen)(z:eZ w l o m t)(A:dH w p q r u)(B:j.size<=maxLen):Hid (∀x y,Calls prog 144 #[db g (.slice a n c) b i h f,eW k (.slice l o m) (.slice p q r) j] ((w.alloc x).alloc y) fun e w'=>e= .returned (.bool (eI g s b k t u j))/\Below ((w.alloc x).alloc y).heap.size ((w.alloc x).alloc y) w'):=fun x y=>lF g a n c s b i h f k l p o m q r t u j _ (v.later ((PE w).out x y)) d (z.later ((PE w).out x y)) (A.later ((PE w).out x y)) B
section
variable (d:Int)(g:Int)(a:Option Addr)(n c:Nat)(s:List ByteArray)(b i:ByteArray)(h:Bool)(f:Int)(k:Int)(l p:Option Addr)(o m q r:Nat)(t:List Bool)(u:List ByteArray)(j:ByteArray)(id:Int)(w:World)
theorem BN (C:dH w a n c s)(x:b.size<=maxLen)(D:eZ w l o m t)(E:dH w p q r u)(F:j.size<=maxLen)(H:eI g s b k t u j=false):Calls prog 104 #[.int .i64 d,db g (.slice a n c) b i h f,eW k (.slice l o m) (.slice p q r) j,.int .i64 id] w fun e w'=>e= .returned (.tuple #[.string ⟨#[]⟩,.int .i64 1])/\Below w.heap.size w w':=by
 have z:=PE w;have A:=PA g i h f k C x D E F
 have I:Hid (∀W,Calls prog 140 #[.int .i64 d,db g (.slice a n c) b i h f,.int .i64 id] W fun e w'=>e= .returned (.bool (jY d g n id))/\Below W.heap.size W w'):=fun W=>kt d g a n c b i h f id W
 rw[H]at A;unfold db eW at*;go_enter oh,mZ;go_wp2_with fail
 refine(A.out _ _).mono ?_;rintro e J ⟨rfl,v⟩;obtain⟨K,L⟩:=jE v;have M:w.heap.size+1<J.heap.size:=by have:=v.size;simp at this;omega
 have B:=cb ((z.out _ _).trans (v.mono (by simp;omega)));go_wp2_with fail
 refine(I.out _).mono ?_;rintro e N ⟨rfl,y⟩;have O:w.heap.size+1<N.heap.size:=by have:=y.size;omega
 have P:=cb (B.out.trans (y.mono B.out.size));go_wp2;go_ret2;exact⟨rfl,P.out⟩
theorem BO (C:dH w a n c s)(x:b.size<=maxLen)(D:eZ w l o m t)(E:dH w p q r u)(F:j.size<=maxLen)(H:eI g s b k t u j=true)(Q:jY d g n id=false):Calls prog 104 #[.int .i64 d,db g (.slice a n c) b i h f,eW k (.slice l o m) (.slice p q r) j,.int .i64 id] w fun e w'=>e= .returned (.tuple #[.string ⟨#[]⟩,.int .i64 1])/\Below w.heap.size w w':=by
 have z:=PE w;have A:=PA g i h f k C x D E F
 have I:Hid (∀W,Calls prog 140 #[.int .i64 d,db g (.slice a n c) b i h f,.int .i64 id] W fun e w'=>e= .returned (.bool (jY d g n id))/\Below W.heap.size W w'):=fun W=>kt d g a n c b i h f id W
 rw[H]at A;unfold db eW at*;go_enter oh,mZ;go_wp2_with fail
 refine(A.out _ _).mono ?_;rintro e J ⟨rfl,v⟩;obtain⟨K,L⟩:=jE v;have M:w.heap.size+1<J.heap.size:=by have:=v.size;simp at this;omega
 have B:=cb ((z.out _ _).trans (v.mono (by simp;omega)));go_wp2_with fail
 refine(I.out _).mono ?_;rintro e N ⟨rfl,y⟩;have O:w.heap.size+1<N.heap.size:=by have:=y.size;omega
 have P:=cb (B.out.trans (y.mono B.out.size));go_wp2;go_ret2;exact⟨rfl,P.out⟩
end
section
variable (g:Int)(a:Option Addr)(n c:Nat)(s:List ByteArray)(b i:ByteArray)(h:Bool)(f:Int)(k:Int)(l p:Option Addr)(o m q r:Nat)(t:List Bool)(u:List ByteArray)(j:ByteArray)(id:Int)(w:World)
theorem ui (F:dH w a n c s)(x:b.size<=maxLen)(H:eZ w l o m t)(I:dH w p q r u)(J:j.size<=maxLen)(V:eI g s b k t u j=true)(y:ByteArray)(HO:∀W,Below w.heap.size w W->Calls prog 145 #[db g (.slice a n c) b i h f,eW k (.slice l o m) (.slice p q r) j] W fun e w'=>e= .returned (.string y)/\Below W.heap.size W w'):Calls prog 104 #[.int .i64 1,db g (.slice a n c) b i h f,eW k (.slice l o m) (.slice p q r) j,.int .i64 id] w fun e w'=>e= .returned (.tuple #[.string y,.int .i64 0])/\Below w.heap.size w w':=by
 have z:=PE w;have K:=PA g i h f k F x H I J
 have L:Hid (∀W,Calls prog 140 #[.int .i64 1,db g (.slice a n c) b i h f,.int .i64 id] W fun e w'=>e= .returned (.bool (jY 1 g n id))/\Below W.heap.size W w'):=fun W=>kt 1 g a n c b i h f id W
 have A:=cb HO;unfold db eW at*;go_enter oh,mZ;go_wp2_with fail
 refine(K.out _ _).mono ?_;rintro e D ⟨rfl,d⟩;obtain⟨M,N⟩:=jE d;have O:w.heap.size+1<D.heap.size:=by have:=d.size;simp at this;omega
 have P:w.heap.size<D.heap.size:=by omega
 have E:=cb ((z.out _ _).trans (d.mono (by simp;omega)));go_wp2_with fail
 refine(L.out _).mono ?_;rintro e Q ⟨rfl,v⟩;obtain⟨R,S⟩:=jE v;have T:w.heap.size+1<Q.heap.size:=by have:=v.size;omega
 have B:=cb (E.out.trans (v.mono E.out.size));go_wp2_with fail
 refine(A.out _ B.out).mono ?_;rintro e X ⟨rfl,C⟩;have U:=cb (B.out.trans (C.mono B.out.size));go_wp2;go_ret2;exact⟨rfl,U.out⟩
theorem uj (E:dH w a n c s)(x:b.size<=maxLen)(F:eZ w l o m t)(H:dH w p q r u)(I:j.size<=maxLen)(U:eI g s b k t u j=true)(y:ByteArray)(HO:∀W,Below w.heap.size w W->Calls prog 147 #[eW k (.slice l o m) (.slice p q r) j] W fun e w'=>e= .returned (.string y)/\Below W.heap.size W w'):Calls prog 104 #[.int .i64 3,db g (.slice a n c) b i h f,eW k (.slice l o m) (.slice p q r) j,.int .i64 id] w fun e w'=>e= .returned (.tuple #[.string y,.int .i64 0])/\Below w.heap.size w w':=by
 have z:=PE w;have J:=PA g i h f k E x F H I
 have K:Hid (∀W,Calls prog 140 #[.int .i64 3,db g (.slice a n c) b i h f,.int .i64 id] W fun e w'=>e= .returned (.bool (jY 3 g n id))/\Below W.heap.size W w'):=fun W=>kt 3 g a n c b i h f id W
 have A:=cb HO;unfold db eW at*;go_enter oh,mZ;go_wp2_with fail
 refine(J.out _ _).mono ?_;rintro e L ⟨rfl,d⟩;obtain⟨M,N⟩:=jE d;have O:w.heap.size+1<L.heap.size:=by have:=d.size;simp at this;omega
 have D:=cb ((z.out _ _).trans (d.mono (by simp;omega)));go_wp2_with fail
 refine(K.out _).mono ?_;rintro e P ⟨rfl,v⟩;obtain⟨Q,R⟩:=jE v;have S:w.heap.size+1<P.heap.size:=by have:=v.size;omega
 have B:=cb (D.out.trans (v.mono D.out.size));go_wp2_with fail
 refine(A.out _ B.out).mono ?_;rintro e V ⟨rfl,C⟩;have T:=cb (B.out.trans (C.mono B.out.size));go_wp2;go_ret2;exact⟨rfl,T.out⟩
end
theorem tl (a:Option Addr)(n c:Nat)(s:List ByteArray)(b i:ByteArray)(h:Bool)(f:Int)(k:Int)(l p:Option Addr)(o m q r:Nat)(t:List Bool)(u:List ByteArray)(j:ByteArray)(id:Int)(w:World)(E:dH w a n c s)(v:b.size<=maxLen)(F:eZ w l o m t)(H:dH w p q r u)(I:j.size<=maxLen)(U:eI 4 s b k t u j=true)(V:jY 2 4 n id=true)(x:ByteArray)(HO:∀W,Below w.heap.size w W->Calls prog 146 #[eW k (.slice l o m) (.slice p q r) j,.int .i64 0] W fun e w'=>e= .returned (.string x)/\Below W.heap.size W w'):Calls prog 104 #[.int .i64 2,db 4 (.slice a n c) b i h f,eW k (.slice l o m) (.slice p q r) j,.int .i64 id] w fun e w'=>e= .returned (.tuple #[.string x,.int .i64 0])/\Below w.heap.size w w':=by
 have y:=PE w;have J:=PA 4 i h f k E v F H I
 have K:Hid (∀W,Calls prog 140 #[.int .i64 2,db 4 (.slice a n c) b i h f,.int .i64 id] W fun e w'=>e= .returned (.bool (jY 2 4 n id))/\Below W.heap.size W w'):=fun W=>kt 2 4 a n c b i h f id W
 have z:=cb HO;unfold db eW at*;go_enter oh,mZ;go_wp2_with fail
 refine(J.out _ _).mono ?_;rintro e C ⟨rfl,d⟩;obtain⟨L,M⟩:=jE d;have N:w.heap.size+1<C.heap.size:=by have:=d.size;simp at this;omega
 have O:w.heap.size<C.heap.size:=by omega
 have D:=cb ((y.out _ _).trans (d.mono (by simp;omega)));go_wp2_with fail
 refine(K.out _).mono ?_;rintro e P ⟨rfl,g⟩;obtain⟨Q,R⟩:=jE g;have S:w.heap.size+1<P.heap.size:=by have:=g.size;omega
 have A:=cb (D.out.trans (g.mono D.out.size));go_wp2_with fail
 refine(z.out _ A.out).mono ?_;rintro e X ⟨rfl,B⟩;have T:=cb (A.out.trans (B.mono A.out.size));go_wp2;go_ret2;exact⟨rfl,T.out⟩
theorem zK (g:Int)(a:Option Addr)(n c:Nat)(s:List ByteArray)(b i:ByteArray)(h:Bool)(f:Int)(k:Int)(l p:Option Addr)(o m q r:Nat)(t:List Bool)(u:List ByteArray)(j:ByteArray)(id:Int)(w:World)(F:dH w a n c s)(x:b.size<=maxLen)(H:eZ w l o m t)(I:dH w p q r u)(J:j.size<=maxLen)(V:(g==4)=false)(X:eI g s b k t u j=true)(Y:jY 2 g n id=true)(y:ByteArray)(HO:∀W,Below w.heap.size w W->Calls prog 146 #[eW k (.slice l o m) (.slice p q r) j,.int .i64 id] W fun e w'=>e= .returned (.string y)/\Below W.heap.size W w'):Calls prog 104 #[.int .i64 2,db g (.slice a n c) b i h f,eW k (.slice l o m) (.slice p q r) j,.int .i64 id] w fun e w'=>e= .returned (.tuple #[.string y,.int .i64 0])/\Below w.heap.size w w':=by
 have z:=PE w;have K:=PA g i h f k F x H I J
 have L:Hid (∀W,Calls prog 140 #[.int .i64 2,db g (.slice a n c) b i h f,.int .i64 id] W fun e w'=>e= .returned (.bool (jY 2 g n id))/\Below W.heap.size W w'):=fun W=>kt 2 g a n c b i h f id W
 have A:=cb HO;unfold db eW at*;go_enter oh,mZ;go_wp2_with fail
 refine(K.out _ _).mono ?_;rintro e D ⟨rfl,d⟩;obtain⟨M,N⟩:=jE d;have O:w.heap.size+1<D.heap.size:=by have:=d.size;simp at this;omega
 have P:w.heap.size<D.heap.size:=by omega
 have E:=cb ((z.out _ _).trans (d.mono (by simp;omega)));go_wp2_with fail
 refine(L.out _).mono ?_;rintro e Q ⟨rfl,v⟩;obtain⟨R,S⟩:=jE v;have T:w.heap.size+1<Q.heap.size:=by have:=v.size;omega
 have B:=cb (E.out.trans (v.mono E.out.size));go_wp2_with fail
 refine(A.out _ B.out).mono ?_;rintro e Z ⟨rfl,C⟩;have U:=cb (B.out.trans (C.mono B.out.size));go_wp2;go_ret2;exact⟨rfl,U.out⟩
theorem FX (w:World):(method 432 160 (.agg #[]) "Tell").run prog w= .ok (212,.agg #[]) w:=by kernel_rfl
theorem FY (w:World):(method 432 161 (.agg #[]) "Tell").run prog w= .ok (245,.agg #[]) w:=by kernel_rfl
theorem FZ (w:World):(method 432 162 (.agg #[]) "Tell").run prog w= .ok (252,.agg #[]) w:=by kernel_rfl
theorem PB {w:World}{a d o:Option Addr}{n c m l p q:Nat}{r t:List ByteArray}{s:List Bool}{b j:ByteArray}(g:Int)(i:ByteArray)(h:Bool)(f k:Int)(v:dH w a n c r)(u:b.size<=maxLen)(z:eZ w d m l s)(A:dH w o p q t)(B:j.size<=maxLen):Hid (∀x y,Calls prog 123 #[db g (.slice a n c) b i h f,eW k (.slice d m l) (.slice o p q) j] ((w.alloc x).alloc y) fun e w'=>e= .returned (.bool (eI g r b k s t j))/\Below ((w.alloc x).alloc y).heap.size ((w.alloc x).alloc y) w'):=fun x y=>ny g a n c r b i h f k d o m l p q s t j _ (v.later ((PE w).out x y)) u (z.later ((PE w).out x y)) (A.later ((PE w).out x y)) B
section
variable (g:Int)(a:Option Addr)(n c:Nat)(r:List ByteArray)(b i:ByteArray)(h:Bool)(f:Int)(k:Int)(d o:Option Addr)(m l p q:Nat)(s:List Bool)(t:List ByteArray)(j:ByteArray)(id:Int)(w:World)
theorem IZ (z:dH w a n c r)(u:b.size<=maxLen)(A:eZ w d m l s)(B:dH w o p q t)(C:j.size<=maxLen)(D:eI g r b k s t j=false):Calls prog 87 #[.int .i64 1,db g (.slice a n c) b i h f,eW k (.slice d m l) (.slice o p q) j,.int .i64 id] w fun e w'=>e= .returned (.tuple #[.string ⟨#[]⟩,.int .i64 1])/\Below w.heap.size w w':=by
 have x:=PE w;have y:=PB g i h f k z u A B C
 have J:Hid (∀W,Calls prog 210 #[.agg #[],db g (.slice a n c) b i h f,.int .i64 id] W fun e w'=>e= .returned (.bool true)/\Below W.heap.size W w'):=fun W=>xV _ id W
 rw[D]at y;unfold db eW at*;go_enter mo,lf;go_wp2_with fail
 refine(OM _).mono ?_;rintro e w' ⟨rfl,E⟩;go_wp2_with fail
 refine(y.out _ _).mono ?_;rintro e F ⟨rfl,v⟩;have H:w.heap.size+1<F.heap.size:=by have:=v.size;simp at this;omega
 have I:=cb ((x.out _ _).trans (v.mono (by simp;omega)));go_wp2;go_ret2;exact⟨rfl,I.out⟩
theorem Fv (H:dH w a n c r)(x:b.size<=maxLen)(I:eZ w d m l s)(J:dH w o p q t)(K:j.size<=maxLen)(L:eI g r b k s t j=true)(y:ByteArray)(HO:∀W,Below w.heap.size w W->Calls prog 212 #[.agg #[],db g (.slice a n c) b i h f,eW k (.slice d m l) (.slice o p q) j,.int .i64 id] W fun e w'=>e= .returned (.string y)/\Below W.heap.size W w'):Calls prog 87 #[.int .i64 1,db g (.slice a n c) b i h f,eW k (.slice d m l) (.slice o p q) j,.int .i64 id] w fun e w'=>e= .returned (.tuple #[.string y,.int .i64 0])/\Below w.heap.size w w':=by
 have z:=PE w;have B:=PB g i h f k H x I J K
 have M:Hid (∀W,Calls prog 210 #[.agg #[],db g (.slice a n c) b i h f,.int .i64 id] W fun e w'=>e= .returned (.bool true)/\Below W.heap.size W w'):=fun W=>xV _ id W
 rw[L]at B;have C:=cb HO;have O:=yB;have P:=FX;clear H x I J K L HO;unfold db eW at*;go_enter mo,lf;go_wp2_with fail
 go_at_call 47;refine(OM _).mono ?_;rintro e w' ⟨rfl,D⟩;subst D;go_wp2_with fail
 go_at_call 123;refine(B.out _ _).mono ?_;rintro e N ⟨rfl,u⟩;obtain⟨Q,R⟩:=jE u;have S:w.heap.size+1<N.heap.size:=by have:=u.size;simp at this;omega
 have T:w.heap.size<N.heap.size:=by omega
 have E:=cb ((z.out _ _).trans (u.mono (by simp;omega)));clear u;go_wp2_with fail
 go_at_call 210;refine(M.out _).mono ?_;rintro e U ⟨rfl,v⟩;obtain⟨V,X⟩:=jE v;have Y:w.heap.size+1<U.heap.size:=by have:=v.size;omega
 have F:=cb (E.out.trans (v.mono E.out.size));clear v B M E z;go_wp2_with fail
 go_at_call 212;refine(C.out _ F.out).mono ?_;rintro e w3 ⟨rfl,A⟩;have Z:=cb (F.out.trans (A.mono F.out.size));clear A;go_wp2;go_ret2;exact⟨rfl,Z.out⟩
theorem Rt (z:dH w a n c r)(u:b.size<=maxLen)(A:eZ w d m l s)(B:dH w o p q t)(C:j.size<=maxLen)(D:eI g r b k s t j=false):Calls prog 87 #[.int .i64 2,db g (.slice a n c) b i h f,eW k (.slice d m l) (.slice o p q) j,.int .i64 id] w fun e w'=>e= .returned (.tuple #[.string ⟨#[]⟩,.int .i64 1])/\Below w.heap.size w w':=by
 have x:=PE w;have y:=PB g i h f k z u A B C
 have J:=fun W=>uS g a n c b i h f id W
 rw[D]at y;unfold db eW at*;go_enter mo,lf;go_wp2_with fail
 refine(NY _).mono ?_;rintro e w' ⟨rfl,E⟩;go_wp2_with fail
 refine(y.out _ _).mono ?_;rintro e F ⟨rfl,v⟩;have H:w.heap.size+1<F.heap.size:=by have:=v.size;simp at this;omega
 have I:=cb ((x.out _ _).trans (v.mono (by simp;omega)));go_wp2;go_ret2;exact⟨rfl,I.out⟩
theorem Fw (I:dH w a n c r)(x:b.size<=maxLen)(J:eZ w d m l s)(K:dH w o p q t)(L:j.size<=maxLen)(M:eI g r b k s t j=true)(O:gI g n id=true)(y:ByteArray)(HO:∀W,Below w.heap.size w W->Calls prog 245 #[.agg #[],db g (.slice a n c) b i h f,eW k (.slice d m l) (.slice o p q) j,.int .i64 id] W fun e w'=>e= .returned (.string y)/\Below W.heap.size W w'):Calls prog 87 #[.int .i64 2,db g (.slice a n c) b i h f,eW k (.slice d m l) (.slice o p q) j,.int .i64 id] w fun e w'=>e= .returned (.tuple #[.string y,.int .i64 0])/\Below w.heap.size w w':=by
 have z:=PE w;have B:=PB g i h f k I x J K L
 have C:Hid (∀W,Calls prog 243 #[.agg #[],db g (.slice a n c) b i h f,.int .i64 id] W fun e w'=>e= .returned (.bool (gI g n id))/\Below W.heap.size W w'):=fun W=>uS g a n c b i h f id W
 rw[M]at B;rw[O]at C;have D:=cb HO;have P:=tO;have Q:=FY;clear I x J K L M HO;unfold db eW at*;go_enter mo,lf;go_wp2_with fail
 go_at_call 47;refine(NY _).mono ?_;rintro e w' ⟨rfl,E⟩;subst E;go_wp2_with fail
 go_at_call 123;refine(B.out _ _).mono ?_;rintro e N ⟨rfl,u⟩;obtain⟨R,S⟩:=jE u;have T:w.heap.size+1<N.heap.size:=by have:=u.size;simp at this;omega
 have U:w.heap.size<N.heap.size:=by omega
 have F:=cb ((z.out _ _).trans (u.mono (by simp;omega)));clear u;go_wp2_with fail
 go_at_call 243;refine(C.out _).mono ?_;rintro e V ⟨rfl,v⟩;obtain⟨X,Y⟩:=jE v;have Z:w.heap.size+1<V.heap.size:=by have:=v.size;omega
 have H:=cb (F.out.trans (v.mono F.out.size));clear v B C F z;go_wp2_with fail
 go_at_call 245;refine(D.out _ H.out).mono ?_;rintro e w3 ⟨rfl,A⟩;have H3:=cb (H.out.trans (A.mono H.out.size));clear A;go_wp2;go_ret2;exact⟨rfl,H3.out⟩
theorem Ru (z:dH w a n c r)(u:b.size<=maxLen)(A:eZ w d m l s)(B:dH w o p q t)(C:j.size<=maxLen)(D:eI g r b k s t j=false):Calls prog 87 #[.int .i64 3,db g (.slice a n c) b i h f,eW k (.slice d m l) (.slice o p q) j,.int .i64 id] w fun e w'=>e= .returned (.tuple #[.string ⟨#[]⟩,.int .i64 1])/\Below w.heap.size w w':=by
 have x:=PE w;have y:=PB g i h f k z u A B C
 have J:Hid (∀W,Calls prog 250 #[.agg #[],db g (.slice a n c) b i h f,.int .i64 id] W fun e w'=>e= .returned (.bool true)/\Below W.heap.size W w'):=fun W=>Bm _ id W
 rw[D]at y;unfold db eW at*;go_enter mo,lf;go_wp2_with fail
 refine(OO _).mono ?_;rintro e w' ⟨rfl,E⟩;go_wp2_with fail
 refine(y.out _ _).mono ?_;rintro e F ⟨rfl,v⟩;have H:w.heap.size+1<F.heap.size:=by have:=v.size;simp at this;omega
 have I:=cb ((x.out _ _).trans (v.mono (by simp;omega)));go_wp2;go_ret2;exact⟨rfl,I.out⟩
theorem Fx (H:dH w a n c r)(x:b.size<=maxLen)(I:eZ w d m l s)(J:dH w o p q t)(K:j.size<=maxLen)(L:eI g r b k s t j=true)(y:ByteArray)(HO:∀W,Below w.heap.size w W->Calls prog 252 #[.agg #[],db g (.slice a n c) b i h f,eW k (.slice d m l) (.slice o p q) j,.int .i64 id] W fun e w'=>e= .returned (.string y)/\Below W.heap.size W w'):Calls prog 87 #[.int .i64 3,db g (.slice a n c) b i h f,eW k (.slice d m l) (.slice o p q) j,.int .i64 id] w fun e w'=>e= .returned (.tuple #[.string y,.int .i64 0])/\Below w.heap.size w w':=by
 have z:=PE w;have B:=PB g i h f k H x I J K
 have M:Hid (∀W,Calls prog 250 #[.agg #[],db g (.slice a n c) b i h f,.int .i64 id] W fun e w'=>e= .returned (.bool true)/\Below W.heap.size W w'):=fun W=>Bm _ id W
 rw[L]at B;have C:=cb HO;have O:=AE;have P:=FZ;clear H x I J K L HO;unfold db eW at*;go_enter mo,lf;go_wp2_with fail
 go_at_call 47;refine(OO _).mono ?_;rintro e w' ⟨rfl,D⟩;subst D;go_wp2_with fail
 go_at_call 123;refine(B.out _ _).mono ?_;rintro e N ⟨rfl,u⟩;obtain⟨Q,R⟩:=jE u;have S:w.heap.size+1<N.heap.size:=by have:=u.size;simp at this;omega
 have T:w.heap.size<N.heap.size:=by omega
 have E:=cb ((z.out _ _).trans (u.mono (by simp;omega)));clear u;go_wp2_with fail
 go_at_call 250;refine(M.out _).mono ?_;rintro e U ⟨rfl,v⟩;obtain⟨V,X⟩:=jE v;have Y:w.heap.size+1<U.heap.size:=by have:=v.size;omega
 have F:=cb (E.out.trans (v.mono E.out.size));clear v B M E z;go_wp2_with fail
 go_at_call 252;refine(C.out _ F.out).mono ?_;rintro e w3 ⟨rfl,A⟩;have Z:=cb (F.out.trans (A.mono F.out.size));clear A;go_wp2;go_ret2;exact⟨rfl,Z.out⟩
theorem DI (D:dH w a n c r)(x:b.size<=maxLen)(E:eZ w d m l s)(F:dH w o p q t)(H:j.size<=maxLen)(I:eI g r b k s t j=true)(J:gI g n id=false):Calls prog 87 #[.int .i64 2,db g (.slice a n c) b i h f,eW k (.slice d m l) (.slice o p q) j,.int .i64 id] w fun e w'=>e= .returned (.tuple #[.string ⟨#[]⟩,.int .i64 1])/\Below w.heap.size w w':=by
 have y:=PE w;have z:=PB g i h f k D x E F H
 have A:Hid (∀W,Calls prog 243 #[.agg #[],db g (.slice a n c) b i h f,.int .i64 id] W fun e w'=>e= .returned (.bool (gI g n id))/\Below W.heap.size W w'):=fun W=>uS g a n c b i h f id W
 rw[I]at z;rw[J]at A;have K:=tO;clear D x E F H I;unfold db eW at*;go_enter mo,lf;go_wp2_with fail
 go_at_call 47;refine(NY _).mono ?_;rintro e w' ⟨rfl,B⟩;subst B;go_wp2_with fail
 go_at_call 123;refine(z.out _ _).mono ?_;rintro e L ⟨rfl,u⟩;obtain⟨M,N⟩:=jE u;have O:w.heap.size+1<L.heap.size:=by have:=u.size;simp at this;omega
 have C:=cb ((y.out _ _).trans (u.mono (by simp;omega)));clear u;go_wp2_with fail
 go_at_call 243;refine(A.out _).mono ?_;rintro e P ⟨rfl,v⟩;obtain⟨Q,R⟩:=jE v;have S:w.heap.size+1<P.heap.size:=by have:=v.size;omega
 have T:=cb (C.out.trans (v.mono C.out.size));clear v z A C y;go_wp2;go_ret2;exact⟨rfl,T.out⟩
end
theorem DH (d g:Int)(a:Value)(b i:ByteArray)(h:Bool)(f:Int)(k:Int)(c l:Value)(j:ByteArray)(id:Int)(w:World)(m:d≠1)(g2:d≠2)(n:d≠3):Calls prog 87 #[.int .i64 d,db g a b i h f,eW k c l j,.int .i64 id] w fun e w'=>e= .returned (.tuple #[.string ⟨#[]⟩,.int .i64 1])/\Below w.heap.size w w':=by
 have HO:=cb (fun W=>QJ d W m g2 n);go_enter mo,lf;go_wp2_with fail
 refine(HO.out _).mono ?_;rintro e w' ⟨rfl,o⟩;go_wp2;go_ret2;exact⟨rfl,cU.alloc (by simp) _⟩
end Go.Proofs.YtlonjggfnleolaaGreatDoor
