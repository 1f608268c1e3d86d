import Derived.Test.YtlonjggfnleolaaGreatDoorRefAsk
set_option linter.unusedVariables false
set_option maxHeartbeats 4000000
set_option maxRecDepth 20000
namespace Go.Proofs.YtlonjggfnleolaaGreatDoor
open Go.RowKit Go.Proofs.Tryz
variable {w w':World}
structure eZ (w:World)(a:Option Addr)(n c:Nat)(bs:List Bool):Prop where
 len:bs.length=n
 cap:n<=c
 small:bs.length<=140737488355328
 form:(∃b o,a=some ⟨b,o,none⟩/\b<w.heap.size/\∀(i:Nat) (s:Bool),bs[i]?=some s->w.cell? ⟨b,o+i,none⟩=some (.bool s))\/(bs=[]/\c=0)
theorem eZ.later {a:Option Addr}{n c:Nat}{f:List Bool}(h:eZ w a n c f)(hb:Below w.heap.size w w'):eZ w' a n c f:=by
 obtain⟨g,j,k,l⟩:=h;refine⟨g,j,k,?_⟩;rcases l with⟨b,o,rfl,e,d⟩|h
 .exact .inl ⟨b,o,rfl,cH e hb.size,fun i s m=>(hb.cell (p:=⟨b,o+i,none⟩) e).trans (d i s m)⟩
 .exact .inr h
def Se (k a:Int)(d:Int)(e:Value)(b f:ByteArray)(g:Bool)(c:Int)(h:Int)(i j:Value)(l:ByteArray)(m n g2:Int)(s:ByteArray)(x y:Int):Value:=
 .agg #[.int .i64 k,.int .i64 a,.int .i64 d,e,.string b,.string f,.bool g,.int .i64 c,.int .i64 h,i,j,.string l,.int .i64 m,.int .i64 n,.int .i64 g2,.string s,.int .i64 x,.int .i64 y]
def Bc (w:World)(k:Int)(v:Value):Prop:=
 ∃(d o:Int) (a:Option Addr) (n c:Nat) (p:List ByteArray) (b q:ByteArray) (r:Bool) (e t:Int) (h i:Option Addr) (f j g l:Nat) (u:List Bool) (z:List ByteArray) (m:ByteArray) (A B C:Int) (s:ByteArray) (x y:Int),
  v=Se k d o (.slice a n c) b q r e t (.slice h f j) (.slice i g l) m A B C s x y/\dH w a n c p/\b.size<=maxLen/\eZ w h f j u/\dH w i g l z/\m.size<=maxLen/\s.size<=maxLen/\n<=8796093022208/\f<=140737488355328/\g<=8796093022208
theorem Bc.later {k:Int}{v:Value}(h:Bc w k v)(b:Below w.heap.size w w'):Bc w' k v:=by
 obtain⟨d,g,a,n,c,i,e,j,l,f,m,o,p,q,r,t,u,z,A,B,C,D,E,s,x,y,F,H,I,J,K,L,M,N,O,P⟩:=h;exact⟨d,g,a,n,c,i,e,j,l,f,m,o,p,q,r,t,u,z,A,B,C,D,E,s,x,y,F,H.later b,I,J.later b,K.later b,L,M,N,O,P⟩
variable {w:World}{a:Option Addr}{n c i:Nat}{d:List Bool}{g:List ByteArray}{f:Bool}{x:ByteArray}
def vQ (s:ByteArray):Bool:=s.data.toList.all rm
def lv (s:ByteArray):Bool:=eF 1 s.size 8&&vQ s
theorem CB (s:ByteArray)(w:World)(f:s.size<=maxLen):Calls prog 78 #[.string s,.func (.func 80) #[] #[]] w fun e w'=>e= .returned (.bool (vQ s))/\w'=w:=by
 unfold maxLen at f;go_wp2;go_loop [8] (fun i=>∃k:Nat,k<=s.size/\i= .int .i64 k/\(s.data.toList.take k).all rm=true) (fun i=>s.size-(intOf i).toNat)
 case atStart=>exact⟨0,cG _,rfl,by simp⟩
 case round=>
  obtain⟨k,g,rfl,a⟩:=hrel;have c:Hid ((s.data.toList.take k).all rm=true):=a;clear a;by_cases b:k<s.size
  .cases d:rm s[k]with
   |true=>
    go_wp2_with (go_at_call 80;refine(rU _ _).mono ?_;rintro e w' ⟨rfl,rfl⟩)
    go_round
    case rel=>exact⟨k+1,by omega,by go_num,by rw[kh s k b];simp[c.out,d]⟩
    case measure=>simp[intOf];omega
   |false=>
    go_wp2_with (go_at_call 80;refine(rU _ _).mono ?_;rintro e w' ⟨rfl,rfl⟩)
    go_ret;exact⟨cY (vR b d).symm,rfl⟩
  .go_wp2;go_ret;exact⟨cY (by rw[vQ,<-c.out,dt (by simp;omega)]),rfl⟩
theorem La (s:ByteArray)(w:World)(c:s.size<=maxLen):Calls prog 157 #[.string s] w fun e w'=>e= .returned (.bool (lv s))/\w'=w:=by
 have a:=c;cases b:eF 1 s.size 8 with
 |true=>
  go_enter func157,ntmps157;go_wp2_with (first|(refine(kC _ _ _ _).mono ?_;rintro e w' ⟨rfl,rfl⟩)|(refine(CB _ _ a).mono ?_;rintro e w' ⟨rfl,rfl⟩))
  go_ret;exact⟨cY (by simp only[lv,b,jf]),rfl⟩
 |false=>
  go_enter func157,ntmps157;go_wp2_with (first|(refine(kC _ _ _ _).mono ?_;rintro e w' ⟨rfl,rfl⟩))
  go_ret;exact⟨cY (by simp only[lv,b,PQ]),rfl⟩
theorem eZ.at (h:eZ w a n c d):∀(i:Nat) (s:Bool),d[i]?=some s->∃b o,a=some ⟨b,o,none⟩/\b<w.heap.size/\w.cell? ⟨b,o+i,none⟩=some (.bool s):=by
 rcases h.form with⟨b,o,rfl,f,e⟩|⟨rfl,_⟩
 .exact fun i s g=>⟨b,o,rfl,f,e i s g⟩
 .intro i s g;simp at g
theorem dH.at {d:List ByteArray}(h:dH w a n c d):∀(i:Nat) (s:ByteArray),d[i]?=some s->∃b o,a=some ⟨b,o,none⟩/\b<w.heap.size/\w.cell? ⟨b,o+i,none⟩=some (.string s):=by
 rcases h.form with⟨b,o,rfl,f,e⟩|⟨rfl,_⟩
 .exact fun i s g=>⟨b,o,rfl,f,e i s g⟩
 .intro i s g;simp at g
def eW (k:Int)(f v:Value)(a:ByteArray):Value:= .agg #[.int .i64 k,f,v,.string a]
def iQ (p:Bool×ByteArray):Bool:=decide ((p.2.size:Int)<=40)&&(p.1 || p.2.data.toList.isEmpty)
def kA (d:List Bool)(g:List ByteArray)(n:Int):Bool:=decide ((d.length:Int)=n)&&decide ((g.length:Int)=n)&&(d.zip g).all iQ
theorem yh {n:Int}(a:d[i]?=some f)(b:g[i]?=some x)(h:iQ (f,x)=false):kA d g n=false:=by
 unfold kA;rw[List.all_eq_false.2 ⟨(f,x),?_,by simp[h]⟩]
 .simp
 .exact cu (i:=i) (by grind)
theorem uv (b:d[i]?=some f)(c:g[i]?=some x)(h:((d.zip g).take i).all iQ=true)(a:iQ (f,x)=true):((d.zip g).take (i+1)).all iQ=true:=by
 have:(d.zip g)[i]?=some (f,x):=by grind
 rw[eV,this,kg,h];simp[a]
theorem ug (h:x.size=0):x=⟨#[]⟩:=by
 apply qm;have:x.data.toList.length=0:=by simp_all
 rw[dw.1 this]
theorem GW (k:Int)(M E:Option Addr)(V H W I:Nat)(d:List Bool)(g:List ByteArray)(N:ByteArray)(n:Int)(w:World)(s:eZ w M V H d)(v:dH w E W I g):Calls prog 156 #[eW k (.slice M V H) (.slice E W I) N,.int .i64 n] w fun e w'=>e= .returned (.bool (kA d g n))/\Below w.heap.size w w':=by
 unfold eW;have t:=cb (show∀x,Below w.heap.size w (w.alloc x)from fun x=>cU);have O:=s.len;have P:=v.len;have ab:=s.small;have ac:=v.small;have ad:=s.cap;have ae:=v.cap;have X:=cb (fun x=>(s.later (t.out x)).at);have Y:=cb (fun x=>(v.later (t.out x)).at);have Z:=cb v.zd;have m:=cb (show∀(i:Nat) (f:Bool) (x:ByteArray),d[i]?=some f->g[i]?=some x->iQ (f,x)=false->kA d g n=false from fun i f x a b c=>yh a b c);have l:=cb (show(d.length:Int)=n->(g.length:Int)=n->((d.zip g).take d.length).all iQ=true->kA d g n=true from fun a b h=>by
  unfold kA;rw[dt (by simp;omega)]at h;simp[a,b,h])
 have p:=cb (show¬((d.length:Int)=n/\(g.length:Int)=n)->kA d g n=false from fun h=>by
  unfold kA;by_cases a:(d.length:Int)=n
  .by_cases b:(g.length:Int)=n
   .exact absurd ⟨a,b⟩ h
   .simp[b]
  .simp[a])
 clear s v;generalize hF:kA d g n=F at*;clear hF;subst O P;generalize z:d.length=Q at*;have R:=cb z;clear z;generalize A:g.length=q at*;have S:=cb A;clear A;by_cases a:(Q:Int)=n
 .by_cases b:(q:Int)=n
  .subst a;have T:q=Q:=by omega
   subst T;have HG:=cb (l.out rfl rfl);clear b p l;go_wp2;go_loop [22] (fun i=>∃j:Nat,j<=q/\i= .int .i64 j/\Hid (((d.zip g).take j).all iQ=true)) (fun i=>q-(intOf i).toNat)
   case atStart=>exact⟨0,cG _,rfl,(by show _=_;simp)⟩
   case round=>
    obtain⟨j,hj,rfl,r⟩:=hrel;by_cases B:j<q
    .obtain⟨f,s⟩:∃f,d[j]?=some f:=⟨d[j]'(by rw[R.out];exact B),cp _⟩
     obtain⟨x,C⟩:∃x,g[j]?=some x:=⟨g[j]'(by rw[S.out];exact B),cp _⟩
     obtain⟨fb,fo,rfl,af,J⟩:=X.out (.cells #[.int .i64 k,.slice M q H,.slice E q I,.string N] 91) j f s;obtain⟨vb,vo,rfl,ag,K⟩:=Y.out (.cells #[.int .i64 k,.slice (some ⟨fb,fo,none⟩) q H,.slice E q I,.string N] 91) j x C;have hm:=Z.out x (cu C);have L:=cb hm;unfold maxLen at hm;have y:Hid (iQ (f,x)=true->((d.zip g).take (j+1)).all iQ=true):=fun h=>uv s C r.out h
     have HO:Hid (iQ (f,x)=false->F=false):=fun h=>m.out j f x s C h
     clear s C X Y Z m HG r;by_cases D:(x.size:Int)<=40
     .cases f with
      |true=>
       have o:=cb (y.out (by simp[iQ,D]));clear y HO;go_wp2_with (go_at_call 76;refine(rC _ _ L.out).mono ?_;rintro e w' ⟨rfl,rfl⟩)
       go_round
       case rel=>exact⟨j+1,by omega,by go_num,o⟩
       case measure=>simp[intOf];omega
      |false=>
       by_cases u:x=⟨#[]⟩
       .subst u;have o:=cb (y.out (by decide));clear y HO;go_wp2_with (go_at_call 76;refine(rC _ _ L.out).mono ?_;rintro e w' ⟨rfl,rfl⟩)
        go_round
        case rel=>exact⟨j+1,by omega,by go_num,o⟩
        case measure=>simp[intOf];omega
       .have o:=cb (HO.out (by
         have:x.data.toList≠[]:=fun h=>u (qm h)
         simp[iQ];intro _;simpa using this))
        have ah:x.toList.isEmpty=false:=by
         cases h:x.toList.isEmpty
         .rfl
         .exact absurd (ug (Br h)) u
        clear y HO;go_wp2_with (go_at_call 76;refine(rC _ _ L.out).mono ?_;rintro e w' ⟨rfl,rfl⟩)
        go_ret;exact⟨cY o.out.symm,t.out _⟩
     .have o:=cb (HO.out (by simp[iQ];omega));have aa:decide ((x.size:Int)<=40)=false:=by simpa using D
      clear y HO;go_wp2_with (go_at_call 76;refine(rC _ _ L.out).mono ?_;rintro e w' ⟨rfl,rfl⟩)
      go_ret;exact⟨cY o.out.symm,t.out _⟩
    .have U:j=q:=by omega
     subst U;have o:=cb (HG.out r.out);go_wp2;go_ret;exact⟨cY o.out.symm,t.out _⟩
  .have b':((q:Int) != n)=true:=by simpa using b
   have o:=cb (p.out (fun h=>b h.2));subst a;clear p l m b;go_wp2;go_ret;exact⟨cY o.out.symm,t.out _⟩
 .have a':((Q:Int) != n)=true:=by simpa using a
  have o:=cb (p.out (fun h=>a h.1));clear p l m a;go_wp2;go_ret;exact⟨cY o.out.symm,t.out _⟩
def eI (a:Int)(d:List ByteArray)(c:ByteArray)(b:Int)(e:List Bool)(f:List ByteArray)(g:ByteArray):Bool:=
 (decide (a=4) || fp a d c)&&(if b=1 then decide (a=1)&&kA e f d.length else if b=2 then decide (a=2)else if b=3\/b=4 then decide (a=3)else if b=5 then lv g else false)
theorem Jw (a b:Int):(a==b)=decide (a=b):=by grind
theorem ny (i:Int)(a:Option Addr)(n c:Nat)(p:List ByteArray)(j U:ByteArray)(V:Bool)(t:Int)(g:Int)(N O:Option Addr)(P Q R S:Nat)(q:List Bool)(r:List ByteArray)(o:ByteArray)(w:World)(X:dH w a n c p)(s:j.size<=maxLen)(hf:eZ w N P Q q)(hv:dH w O R S r)(hw:o.size<=maxLen):Calls prog 123 #[db i (.slice a n c) j U V t,eW g (.slice N P Q) (.slice O R S) o] w fun e w'=>e= .returned (.bool (eI i p j g q r o))/\Below w.heap.size w w':=by
 have d:=PE w;have m:Hid (∀x y,Calls prog 48 #[db i (.slice a n c) j U V t] ((w.alloc x).alloc y) fun e w'=>e= .returned (.bool (fp i p j))/\Below ((w.alloc x).alloc y).heap.size ((w.alloc x).alloc y) w'):=fun x y=>mI i (.slice a n c) p j U V t _ (X.later (d.out x y)).strs s
 have Y:Hid (∀W,Below w.heap.size w W->Calls prog 156 #[eW g (.slice N P Q) (.slice O R S) o,.int .i64 n] W fun e w'=>e= .returned (.bool (kA q r p.length))/\Below W.heap.size W w'):=fun W h=>by
  rw[X.len];exact GW g N O P Q R S q r o n W (hf.later h) (hv.later h)
 have K:Hid (∀W,Calls prog 157 #[.string o] W fun e w'=>e= .returned (.bool (lv o))/\w'=W):=fun W=>La o W hw
 have k:=cb (show eI i p j g q r o=((decide (i=4) || fp i p j)&&(if g=1 then decide (i=1)&&kA q r p.length else if g=2 then decide (i=2)else if g=3\/g=4 then decide (i=3)else if g=5 then lv o else false))from rfl);generalize eI i p j g q r o=A at*;generalize kA q r p.length=F at*;generalize lv o=D at*;generalize fp i p j=C at*;clear X s hf hv hw;unfold db eW at*;by_cases T:i=4
 .subst T;have f:=cb k.out;by_cases u:g=1
  .subst u;have H:=cb (show A=false by rw[k.out];simp);clear k f;go_wp2;go_ret;exact⟨cY H.out.symm,d.out _ _⟩
  by_cases v:g=2
  .subst v;have H:=cb (show A=false by rw[k.out];simp);clear k f;go_wp2;go_ret;exact⟨cY H.out.symm,d.out _ _⟩
  by_cases z:g=3
  .subst z;have H:=cb (show A=false by rw[k.out];simp);clear k f;go_wp2;go_ret;exact⟨cY H.out.symm,d.out _ _⟩
  by_cases B:g=4
  .subst B;have H:=cb (show A=false by rw[k.out];simp);clear k f;go_wp2;go_ret;exact⟨cY H.out.symm,d.out _ _⟩
  by_cases E:g=5
  .subst E;have H:=cb (show A=D by rw[k.out];simp);clear k f;go_enter jH,jg;go_wp2_with (go_at_call 157;refine(K.out _).mono ?_;rintro e w' ⟨rfl,rfl⟩)
   go_ret;exact⟨cY H.out.symm,d.out _ _⟩
  have H:=cb (show A=false by rw[k.out];simp[u,v,z,B,E]);have Z:(g==1)=false:=by simpa using u
  have aa:(g==2)=false:=by simpa using v
  have ab:(g==3)=false:=by simpa using z
  have ac:(g==4)=false:=by simpa using B
  have ad:(g==5)=false:=by simpa using E
  clear k f;go_enter jH,jg;go_wp2;go_ret;exact⟨cY H.out.symm,d.out _ _⟩
 .have ae:(i != 4)=true:=by simpa using T
  cases C with
  |false=>
   have H:=cb (show A=false by rw[k.out];simp[T]);clear k;go_enter jH,jg;go_wp2_with fail
   go_at_call 48;refine(m.out _ _).mono ?_;rintro e I ⟨rfl,b⟩;have h:=(d.out _ _).trans (b.mono (by simp;omega));have l:=cb h;clear b h m d;go_wp2;go_ret;exact⟨cY H.out.symm,l.out⟩
  |true=>
   have f:=cb (show A=(if g=1 then decide (i=1)&&F else if g=2 then decide (i=2)else if g=3\/g=4 then decide (i=3)else if g=5 then D else false)by rw[k.out];simp);clear k;by_cases u:g=1
   .subst u;by_cases c1:i=1
    .subst c1;have H:=cb (show A=F by rw[f.out];simp);clear f T ae;go_enter jH,jg;go_wp2_with fail
     go_at_call 48;refine(m.out _ _).mono ?_;rintro e I ⟨rfl,b⟩;have h:=(d.out _ _).trans (b.mono (by simp;omega));have L:=(b.cell (p:=⟨w.heap.size,0,none⟩) (by simp;omega))
     have af:=(b.cell (p:=⟨w.heap.size,1,none⟩) (by simp;omega))
     have J:=(b.cell (p:=⟨w.heap.size+1,0,none⟩) (by simp))
     have m1:=(b.cell (p:=⟨w.heap.size+1,1,none⟩) (by simp))
     have m2:=(b.cell (p:=⟨w.heap.size+1,2,none⟩) (by simp))
     have m3:=(b.cell (p:=⟨w.heap.size+1,3,none⟩) (by simp))
     have l:=cb h;clear b h m d;go_wp2_with fail
     go_at_call 156;refine(Y.out _ l.out).mono ?_;rintro e w2 ⟨rfl,M⟩;have H2:=cb (l.out.trans (M.mono l.out.size));clear M;go_wp2;go_ret;exact⟨cY H.out.symm,H2.out⟩
    .have ag:(i==1)=false:=by simpa using c1
     have H:=cb (show A=false by rw[f.out];simp[c1]);clear f;go_enter jH,jg;go_wp2_with fail
     go_at_call 48;refine(m.out _ _).mono ?_;rintro e I ⟨rfl,b⟩;have h:=(d.out _ _).trans (b.mono (by simp;omega));have L:=(b.cell (p:=⟨w.heap.size,0,none⟩) (by simp;omega))
     have J:=(b.cell (p:=⟨w.heap.size+1,0,none⟩) (by simp))
     have l:=cb h;clear b h m d;go_wp2;go_ret;exact⟨cY H.out.symm,l.out⟩
   by_cases v:g=2
   .subst v;have H:=cb (show A=(i==2)by rw[f.out,Jw];simp);clear f;go_enter jH,jg;go_wp2_with fail
    go_at_call 48;refine(m.out _ _).mono ?_;rintro e I ⟨rfl,b⟩;have h:=(d.out _ _).trans (b.mono (by simp;omega));have L:=(b.cell (p:=⟨w.heap.size,0,none⟩) (by simp;omega))
    have J:=(b.cell (p:=⟨w.heap.size+1,0,none⟩) (by simp))
    have l:=cb h;clear b h m d;go_wp2;go_ret;exact⟨cY H.out.symm,l.out⟩
   by_cases z:g=3
   .subst z;have H:=cb (show A=(i==3)by rw[f.out,Jw];simp);clear f;go_enter jH,jg;go_wp2_with fail
    go_at_call 48;refine(m.out _ _).mono ?_;rintro e I ⟨rfl,b⟩;have h:=(d.out _ _).trans (b.mono (by simp;omega));have L:=(b.cell (p:=⟨w.heap.size,0,none⟩) (by simp;omega))
    have J:=(b.cell (p:=⟨w.heap.size+1,0,none⟩) (by simp))
    have l:=cb h;clear b h m d;go_wp2;go_ret;exact⟨cY H.out.symm,l.out⟩
   by_cases B:g=4
   .subst B;have H:=cb (show A=(i==3)by rw[f.out,Jw];simp);clear f;go_enter jH,jg;go_wp2_with fail
    go_at_call 48;refine(m.out _ _).mono ?_;rintro e I ⟨rfl,b⟩;have h:=(d.out _ _).trans (b.mono (by simp;omega));have L:=(b.cell (p:=⟨w.heap.size,0,none⟩) (by simp;omega))
    have J:=(b.cell (p:=⟨w.heap.size+1,0,none⟩) (by simp))
    have l:=cb h;clear b h m d;go_wp2;go_ret;exact⟨cY H.out.symm,l.out⟩
   by_cases E:g=5
   .subst E;have H:=cb (show A=D by rw[f.out];simp);clear f;go_enter jH,jg;go_wp2_with fail
    go_at_call 48;refine(m.out _ _).mono ?_;rintro e I ⟨rfl,b⟩;have h:=(d.out _ _).trans (b.mono (by simp;omega));have L:=(b.cell (p:=⟨w.heap.size,0,none⟩) (by simp;omega))
    have af:=(b.cell (p:=⟨w.heap.size,1,none⟩) (by simp;omega))
    have J:=(b.cell (p:=⟨w.heap.size+1,0,none⟩) (by simp))
    have m1:=(b.cell (p:=⟨w.heap.size+1,1,none⟩) (by simp))
    have m2:=(b.cell (p:=⟨w.heap.size+1,2,none⟩) (by simp))
    have m3:=(b.cell (p:=⟨w.heap.size+1,3,none⟩) (by simp))
    have l:=cb h;clear b h m d;go_wp2_with (go_at_call 157;refine(K.out _).mono ?_;rintro e w' ⟨rfl,rfl⟩)
    go_ret;exact⟨cY H.out.symm,l.out⟩
   have H:=cb (show A=false by rw[f.out];simp[u,v,z,B,E]);have Z:(g==1)=false:=by simpa using u
   have aa:(g==2)=false:=by simpa using v
   have ab:(g==3)=false:=by simpa using z
   have ac:(g==4)=false:=by simpa using B
   have ad:(g==5)=false:=by simpa using E
   clear f;go_enter jH,jg;go_wp2_with fail
   go_at_call 48;refine(m.out _ _).mono ?_;rintro e I ⟨rfl,b⟩;have h:=(d.out _ _).trans (b.mono (by simp;omega));have J:=(b.cell (p:=⟨w.heap.size+1,0,none⟩) (by simp))
   have l:=cb h;clear b h m d;go_wp2;go_ret;exact⟨cY H.out.symm,l.out⟩
variable {s:ByteArray}
theorem EL (b:UInt8):(rm b=true/\97<=(b.toNat:Int)/\(b.toNat:Int)<=122)\/(rm b=false/\((b.toNat:Int)<97\/122<(b.toNat:Int))):=by
 unfold rm;by_cases a:97<=(b.toNat:Int)<;>by_cases c:(b.toNat:Int)<=122<;>simp[a,c]<;>omega
theorem DO {k:Nat}(h:k<s.size)(a:rm s[k]=false):lv s=false:=by
 simp only[lv,vQ,vR h a,kH]
theorem FE (h:(s.data.toList.take s.size).all rm=true):lv s=eF 1 s.size 8:=by
 have:vQ s=true:=by rw[vQ,<-h,dt (by simp)]
 simp only[lv,this,mV]
theorem yU (b:Int)(a:Option Addr)(n c:Nat)(j:List ByteArray)(d q:ByteArray)(p:Bool)(o:Int)(Q R:Value)(l:List Bool)(m:List ByteArray)(g:ByteArray)(w:World)(M:dH w a n c j)(z:d.size<=maxLen)(S:g.size<=maxLen):Calls prog 144 #[db b (.slice a n c) d q p o,eW 5 Q R g] w fun e w'=>e= .returned (.bool (eI b j d 5 l m g))/\Below w.heap.size w w':=by
 have B:=PE w;have N:Hid (∀x y,Calls prog 139 #[db b (.slice a n c) d q p o] ((w.alloc x).alloc y) fun e w'=>e= .returned (.bool (fp b j d))/\Below ((w.alloc x).alloc y).heap.size ((w.alloc x).alloc y) w'):=fun x y=>iz b (.slice a n c) j d q p o _ (M.later (B.out x y)).strs z
 have I:=cb (show eI b j d 5 l m g=((decide (b=4) || fp b j d)&&lv g)from rfl);have J:Hid (∀k (h:k<g.size),rm g[k]=false->lv g=false):=fun k h T=>DO h T
 have O:Hid ((g.data.toList.take g.size).all rm=true->lv g=eF 1 g.size 8):=FE;generalize eI b j d 5 l m g=A at*;generalize lv g=D at*;generalize fp b j d=C at*;clear M z;unfold maxLen at S;unfold db eW at*;go_enter km,jJ;go_wp2_with fail
 go_at_call 139;refine(N.out _ _).mono ?_;rintro e w1 ⟨rfl,f⟩;have P:=(B.out _ _).trans (f.mono (by simp;omega));have k0:=(f.cell (p:=⟨w.heap.size,0,none⟩) (by simp;omega))
 have U:=(f.cell (p:=⟨w.heap.size,1,none⟩) (by simp;omega))
 have m0:=(f.cell (p:=⟨w.heap.size+1,0,none⟩) (by simp))
 have m1:=(f.cell (p:=⟨w.heap.size+1,1,none⟩) (by simp))
 have m2:=(f.cell (p:=⟨w.heap.size+1,2,none⟩) (by simp))
 have m3:=(f.cell (p:=⟨w.heap.size+1,3,none⟩) (by simp))
 have t:=cb P;clear f P N B;go_wp2;go_loop [6] (fun i=>∃k:Nat,k<=g.size/\i= .int .i64 k/\Hid ((g.data.toList.take k).all rm=true)) (fun i=>g.size-(intOf i).toNat)
 case atStart=>exact⟨0,cG _,rfl,(by show _=_;simp)⟩
 case round=>
  obtain⟨k,V,rfl,r⟩:=hrel;by_cases u:k<g.size
  .rcases EL g[k]with⟨E,h1,h2⟩|⟨E,h|h⟩
   .have W:Hid ((g.data.toList.take (k+1)).all rm=true):=by show _=_;rw[kh g k u,kg,r.out];simp[E]
    clear E;go_wp2;all_goals go_round
    all_goals first|exact⟨k+1,by omega,by go_num,W⟩|(simp[intOf];omega)
   .have K:Hid (A=false):=by show _=_;rw[I.out,J.out k u E,kH]
    clear E;go_wp2;all_goals(go_ret;exact⟨cY K.out.symm,t.out⟩)
   .have K:Hid (A=false):=by show _=_;rw[I.out,J.out k u E,kH]
    clear E;go_wp2;all_goals(go_ret;exact⟨cY K.out.symm,t.out⟩)
  .have L:k=g.size:=by omega
   subst L;have s:=cb (show A=((decide (b=4) || C)&&eF 1 g.size 8)by rw[I.out,O.out r.out]);clear I J O r u V;by_cases X:1<=(g.size:Int)
   .by_cases Y:(g.size:Int)<=8
    .cases C with
     |true=>
      have H:=cb (show A=true by rw[s.out,nR (by omega) (by omega)];simp);clear s;go_wp2;go_ret;exact⟨cY H.out.symm,t.out⟩
     |false=>
      by_cases v:b=4
      .subst v;have H:=cb (show A=true by rw[s.out,nR (by omega) (by omega)];simp);clear s;go_wp2;go_ret;exact⟨cY H.out.symm,t.out⟩
      .have F:(b==4)=false:=by simpa using v
       have H:=cb (show A=false by rw[s.out];simp[v]);clear s;go_wp2;go_ret;exact⟨cY H.out.symm,t.out⟩
    .have Z:¬(g.size:Int)<=8:=Y;have H:=cb (show A=false by rw[s.out,nQ (by omega)];simp);clear s;by_cases v:b=4
     .subst v;cases C<;>(go_wp2;go_ret;exact⟨cY H.out.symm,t.out⟩)
     .have F:(b==4)=false:=by simpa using v
      cases C<;>(go_wp2;go_ret;exact⟨cY H.out.symm,t.out⟩)
   .have aa:¬1<=(g.size:Int):=X;have H:=cb (show A=false by rw[s.out,nQ (by omega)];simp);clear s;by_cases v:b=4
    .subst v;cases C<;>(go_wp2;go_ret;exact⟨cY H.out.symm,t.out⟩)
    .have F:(b==4)=false:=by simpa using v
     cases C<;>(go_wp2;go_ret;exact⟨cY H.out.symm,t.out⟩)
theorem zL (a:Option Addr)(n c:Nat)(d q:ByteArray)(p:Bool)(o:Int)(k u:Option Addr)(t r v z:Nat)(l:List Bool)(m:List ByteArray)(g:ByteArray)(w:World)(J:eZ w k t r l)(M:dH w u v z m)(ah:n<=4)(F:Bool)(Y:Hid (F=kA l m n))(N:Hid (∀x y,Calls prog 139 #[.agg #[.int .i64 1,.slice a n c,.string d,.string q,.bool p,.int .i64 o]] ((w.alloc x).alloc y) fun e w'=>e= .returned (.bool true)/\Below ((w.alloc x).alloc y).heap.size ((w.alloc x).alloc y) w')):Calls prog 144 #[.agg #[.int .i64 1,.slice a n c,.string d,.string q,.bool p,.int .i64 o],.agg #[.int .i64 1,.slice k t r,.slice u v z,.string g]] w fun e w'=>e= .returned (.bool F)/\Below w.heap.size w w':=by
 have C:=PE w;have ac:=J.len;have ad:=M.len;have ai:=J.small;have aj:=M.small;have ak:=J.cap;have al:=M.cap;have HF:=cb (fun W E=>(J.later (w':=W) E).at);have HV:=cb (fun W E=>(M.later (w':=W) E).at);have HS:=cb M.zd;have B:=cb (show∀(i:Nat) (f:Bool) (x:ByteArray),l[i]?=some f->m[i]?=some x->iQ (f,x)=false->F=false from fun i f x a b c=>Y.out.trans (yh a b c));have A:=cb (show l.length=n->m.length=n->((l.zip m).take l.length).all iQ=true->F=true from fun a b h=>by
  rw[Y.out];unfold kA;rw[dt (by simp;omega)]at h;simp[a,b,h])
 have H:=cb (show¬(l.length=n/\m.length=n)->F=false from fun h=>by
  rw[Y.out];unfold kA;by_cases a:l.length=n
  .by_cases b:m.length=n
   .exact absurd ⟨a,b⟩ h
   .have:¬((m.length:Int)=n):=by omega
    simp[this]
  .have:¬((l.length:Int)=n):=by omega
   simp[this])
 clear J M Y;subst ac ad;generalize Q:l.length=fl at*;have ae:=cb Q;clear Q;generalize R:m.length=O at*;have af:=cb R;clear R;by_cases Z:fl=n
 .by_cases g2:O=n
  .subst Z;subst g2;have HG:=cb (A.out rfl rfl);clear H A;go_enter km,jJ;go_wp2_with fail
   go_at_call 139;refine(N.out _ _).mono ?_;rintro e w1 ⟨rfl,s⟩;have E:=(C.out _ _).trans (s.mono (by simp;omega));have k0:=(s.cell (p:=⟨w.heap.size,0,none⟩) (by simp;omega))
   have S:=(s.cell (p:=⟨w.heap.size,1,none⟩) (by simp;omega))
   have m0:=(s.cell (p:=⟨w.heap.size+1,0,none⟩) (by simp))
   have m1:=(s.cell (p:=⟨w.heap.size+1,1,none⟩) (by simp))
   have m2:=(s.cell (p:=⟨w.heap.size+1,2,none⟩) (by simp))
   have m3:=(s.cell (p:=⟨w.heap.size+1,3,none⟩) (by simp))
   have K:=cb E;clear s E N C;go_wp2;go_loop [7] (fun i=>∃j:Nat,j<=O/\i= .int .i64 j/\Hid (((l.zip m).take j).all iQ=true)) (fun i=>O-(intOf i).toNat)
   case atStart=>exact⟨0,cG _,rfl,(by show _=_;simp)⟩
   case round=>
    obtain⟨j,hj,rfl,I⟩:=hrel;by_cases T:j<O
    .obtain⟨f,J⟩:∃f,l[j]?=some f:=⟨l[j]'(by rw[ae.out];exact T),cp _⟩
     obtain⟨x,U⟩:∃x,m[j]?=some x:=⟨m[j]'(by rw[af.out];exact T),cp _⟩
     obtain⟨fb,fo,rfl,am,aa⟩:=HF.out w1 K.out j f J;obtain⟨vb,vo,rfl,an,ab⟩:=HV.out w1 K.out j x U;have hm:=HS.out x (cu U);unfold maxLen at hm;have P:Hid (iQ (f,x)=true->((l.zip m).take (j+1)).all iQ=true):=fun h=>uv J U I.out h
     have HO:Hid (iQ (f,x)=false->F=false):=fun h=>B.out j f x J U h
     clear J U HF HV HS B HG I;by_cases V:(x.size:Int)<=40
     .have X:¬40<(x.size:Int):=by omega
      cases f with
      |true=>
       have D:=cb (P.out (by simp[iQ,V]));clear P HO;go_wp2;go_round
       case rel=>exact⟨j+1,by omega,by go_num,D⟩
       case measure=>simp[intOf];omega
      |false=>
       by_cases L:x=⟨#[]⟩
       .subst L;have D:=cb (P.out (by decide));clear P HO;go_wp2;go_round
        case rel=>exact⟨j+1,by omega,by go_num,D⟩
        case measure=>simp[intOf];omega
       .have D:=cb (HO.out (by
         have:x.data.toList≠[]:=fun h=>L (qm h)
         simp[iQ];intro _;simpa using this))
        have ao:x.toList.isEmpty=false:=by
         cases h:x.toList.isEmpty
         .rfl
         .exact absurd (ug (Br h)) L
        clear P HO;go_wp2;go_ret;exact⟨cY D.out.symm,K.out⟩
     .have D:=cb (HO.out (by simp[iQ];omega));have X:40<(x.size:Int):=by omega
      clear P HO V;go_wp2;go_ret;exact⟨cY D.out.symm,K.out⟩
    .have ag:j=O:=by omega
     subst ag;have D:=cb (HG.out I.out);go_wp2;go_ret;exact⟨cY D.out.symm,K.out⟩
  .have b':((O:Int) != n)=true:=by simp;omega
   have D:=cb (H.out (fun h=>g2 h.2));subst Z;clear H A B g2;go_enter km,jJ;go_wp2_with fail
   go_at_call 139;refine(N.out _ _).mono ?_;rintro e w1 ⟨rfl,s⟩;have E:=(C.out _ _).trans (s.mono (by simp;omega));have k0:=(s.cell (p:=⟨w.heap.size,0,none⟩) (by simp;omega))
   have S:=(s.cell (p:=⟨w.heap.size,1,none⟩) (by simp;omega))
   have m0:=(s.cell (p:=⟨w.heap.size+1,0,none⟩) (by simp))
   have m1:=(s.cell (p:=⟨w.heap.size+1,1,none⟩) (by simp))
   have m2:=(s.cell (p:=⟨w.heap.size+1,2,none⟩) (by simp))
   have K:=cb E;clear s E N C;go_wp2;go_ret;exact⟨cY D.out.symm,K.out⟩
 .have a':((fl:Int) != n)=true:=by simp;omega
  have D:=cb (H.out (fun h=>Z h.1));clear H A B Z;go_enter km,jJ;go_wp2_with fail
  go_at_call 139;refine(N.out _ _).mono ?_;rintro e w1 ⟨rfl,s⟩;have E:=(C.out _ _).trans (s.mono (by simp;omega));have k0:=(s.cell (p:=⟨w.heap.size,0,none⟩) (by simp;omega))
  have S:=(s.cell (p:=⟨w.heap.size,1,none⟩) (by simp;omega))
  have m0:=(s.cell (p:=⟨w.heap.size+1,0,none⟩) (by simp))
  have m1:=(s.cell (p:=⟨w.heap.size+1,1,none⟩) (by simp))
  have K:=cb E;clear s E N C;go_wp2;go_ret;exact⟨cY D.out.symm,K.out⟩
section
variable (b:Int)(a:Option Addr)(n c:Nat)(j:List ByteArray)(d q:ByteArray)(p:Bool)(o:Int)(f:Int)(k u:Option Addr)(t r v z:Nat)(l:List Bool)(m:List ByteArray)(g:ByteArray)(w:World)
theorem yT (P:dH w a n c j)(J:d.size<=maxLen)(Y:eZ w k t r l)(Z:dH w u v z m)(Q:f≠5):Calls prog 144 #[db b (.slice a n c) d q p o,eW f (.slice k t r) (.slice u v z) g] w fun e w'=>e= .returned (.bool (eI b j d f l m g))/\Below w.heap.size w w':=by
 have s:=PE w;have E:Hid (∀x y,Calls prog 139 #[db b (.slice a n c) d q p o] ((w.alloc x).alloc y) fun e w'=>e= .returned (.bool (fp b j d))/\Below ((w.alloc x).alloc y).heap.size ((w.alloc x).alloc y) w'):=fun x y=>iz b (.slice a n c) j d q p o _ (P.later (s.out x y)).strs J
 have K:=cb (show eI b j d f l m g=((decide (b=4) || fp b j d)&&(if f=1 then decide (b=1)&&kA l m j.length else if f=2 then decide (b=2)else if f=3\/f=4 then decide (b=3)else if f=5 then lv g else false))from rfl);have R:Hid (fp b j d=true->b=1\/b=2\/b=3):=fun h=>(nj h).kind
 have M:Hid (fp b j d=true->j.length<=4):=fun h=>(nj h).yu
 have aa:(f==5)=false:=by simpa using Q
 rw[P.len]at K M;generalize eI b j d f l m g=A at*;generalize fp b j d=C at*;clear P J;unfold db eW at*;cases C with
 |false=>
  have H:=cb (show A=false by
   rw[K.out];by_cases W:b=4
   .subst W;simp[Q]
   .simp[W])
  clear K R M;go_enter km,jJ;go_wp2_with fail
  go_at_call 139;refine(E.out _ _).mono ?_;rintro e N ⟨rfl,i⟩;have D:=(s.out _ _).trans (i.mono (by simp;omega));have O:=(i.cell (p:=⟨w.heap.size+1,0,none⟩) (by simp))
  have F:=cb D;clear i D E s;go_wp2;go_ret;exact⟨cY H.out.symm,F.out⟩
 |true=>
  have S:=R.out rfl;have T:=M.out rfl;have B:=cb (show A=(if f=1 then decide (b=1)&&kA l m n else if f=2 then decide (b=2)else if f=3\/f=4 then decide (b=3)else false)by rw[K.out];simp[Q]);clear K R M;rcases S with rfl|rfl|rfl
  .by_cases I:f=1
   .subst I;have HG:=cb (show A=kA l m n by rw[B.out];simp);clear B;exact zL a n c d q p o k u t r v z l m g w Y Z T A HG E
   .have ab:(f != 1)=true:=by simpa using I
    have H:=cb (show A=false by rw[B.out];simp[I]);clear B;go_enter km,jJ;go_wp2_with fail
    go_at_call 139;refine(E.out _ _).mono ?_;rintro e N ⟨rfl,i⟩;have D:=(s.out _ _).trans (i.mono (by simp;omega));have U:=(i.cell (p:=⟨w.heap.size,0,none⟩) (by simp;omega))
    have O:=(i.cell (p:=⟨w.heap.size+1,0,none⟩) (by simp))
    have F:=cb D;clear i D E s;go_wp2;go_ret;exact⟨cY H.out.symm,F.out⟩
  .have H:=cb (show A=(f==2)by
    rw[B.out,Jw];by_cases I:f=1
    .subst I;simp
    .by_cases L:f=2
     .subst L;simp
     .simp[I,L])
   clear B;go_enter km,jJ;go_wp2_with fail
   go_at_call 139;refine(E.out _ _).mono ?_;rintro e N ⟨rfl,i⟩;have D:=(s.out _ _).trans (i.mono (by simp;omega));have U:=(i.cell (p:=⟨w.heap.size,0,none⟩) (by simp;omega))
   have O:=(i.cell (p:=⟨w.heap.size+1,0,none⟩) (by simp))
   have F:=cb D;clear i D E s;go_wp2;go_ret;exact⟨cY H.out.symm,F.out⟩
  .by_cases V:f=3
   .subst V;have H:=cb (show A=true by rw[B.out];simp);clear B;go_enter km,jJ;go_wp2_with fail
    go_at_call 139;refine(E.out _ _).mono ?_;rintro e N ⟨rfl,i⟩;have D:=(s.out _ _).trans (i.mono (by simp;omega));have U:=(i.cell (p:=⟨w.heap.size,0,none⟩) (by simp;omega))
    have O:=(i.cell (p:=⟨w.heap.size+1,0,none⟩) (by simp))
    have F:=cb D;clear i D E s;go_wp2;go_ret;exact⟨cY H.out.symm,F.out⟩
   .have ac:(f==3)=false:=by simpa using V
    have H:=cb (show A=(f==4)by
     rw[B.out,Jw];by_cases I:f=1
     .subst I;simp
     .by_cases L:f=2
      .subst L;simp
      .by_cases X:f=4
       .subst X;simp
       .simp[I,L,V,X])
    clear B;go_enter km,jJ;go_wp2_with fail
    go_at_call 139;refine(E.out _ _).mono ?_;rintro e N ⟨rfl,i⟩;have D:=(s.out _ _).trans (i.mono (by simp;omega));have U:=(i.cell (p:=⟨w.heap.size,0,none⟩) (by simp;omega))
    have O:=(i.cell (p:=⟨w.heap.size+1,0,none⟩) (by simp))
    have F:=cb D;clear i D E s;go_wp2;go_ret;exact⟨cY H.out.symm,F.out⟩
theorem lF (i:dH w a n c j)(h:d.size<=maxLen)(x:eZ w k t r l)(y:dH w u v z m)(A:g.size<=maxLen):Calls prog 144 #[db b (.slice a n c) d q p o,eW f (.slice k t r) (.slice u v z) g] w fun e w'=>e= .returned (.bool (eI b j d f l m g))/\Below w.heap.size w w':=by
 by_cases s:f=5
 .subst s;exact yU b a n c j d q p o _ _ l m g w i h A
 .exact yT b a n c j d q p o f k u t r v z l m g w i h x y s
end
def oV (a:Int)(b:ByteArray):ByteArray:=if a=2 then⟨#[100,111,110,101,10]⟩else if a=3 then⟨#[103,111,110,101,10]⟩else if a=4 then⟨#[110,111,110,101,10]⟩else⟨#[102,97,105,108,32]⟩++b++⟨#[10]⟩
theorem rW (k:Int)(j:Value)(c i:ByteArray)(h:Bool)(d:Int)(a:Int)(g f:Value)(b:ByteArray)(id:Int)(w:World)(m:a=2\/a=3\/a=4\/a=5)(n:a=5->b.size<=8):Calls prog 212 #[.agg #[],db k j c i h d,eW a g f b,.int .i64 id] w fun e w'=>e= .returned (.string (oV a b))/\Below w.heap.size w w':=by
 have l:=cb (show∀x y z,Below w.heap.size w (((w.alloc x).alloc y).alloc z)from fun x y z=>(cU.alloc (by simp) _).alloc (by simp;omega) _);unfold db eW;rcases m with rfl|rfl|rfl|rfl;all_goals
  go_wp2
  go_ret
  exact⟨ir rfl,l.out _ _ _⟩
def oW (a:Int)(b:ByteArray):ByteArray:=if a=2 then⟨#[43,100,111,110,101,10]⟩else if a=3 then⟨#[58,49,10]⟩else if a=4 then⟨#[58,48,10]⟩else⟨#[45]⟩++b++⟨#[10]⟩
section
variable (k:Int)(j:Value)(c i:ByteArray)(h:Bool)(d:Int)(a:Int)(g f:Value)(b:ByteArray)
theorem rY (id:Int)(w:World)(m:a=2\/a=3\/a=4\/a=5)(n:a=5->b.size<=8):Calls prog 252 #[.agg #[],db k j c i h d,eW a g f b,.int .i64 id] w fun e w'=>e= .returned (.string (oW a b))/\Below w.heap.size w w':=by
 have l:=cb (show∀x y z,Below w.heap.size w (((w.alloc x).alloc y).alloc z)from fun x y z=>(cU.alloc (by simp) _).alloc (by simp;omega) _);unfold db eW;rcases m with rfl|rfl|rfl|rfl;all_goals
  go_wp2
  go_ret
  exact⟨ir rfl,l.out _ _ _⟩
theorem ti (w:World)(m:a=2\/a=3\/a=4\/a=5)(n:a=5->b.size<=8):Calls prog 145 #[db k j c i h d,eW a g f b] w fun e w'=>e= .returned (.string (oV a b))/\Below w.heap.size w w':=by
 have l:=PE w;unfold db eW;rcases m with rfl|rfl|rfl|rfl;all_goals
  go_wp2
  go_ret
  exact⟨ir rfl,l.out _ _⟩
end
theorem tj (a:Int)(g f:Value)(b:ByteArray)(w:World)(c:a=2\/a=3\/a=4\/a=5)(h:a=5->b.size<=8):Calls prog 147 #[eW a g f b] w fun e w'=>e= .returned (.string (oW a b))/\Below w.heap.size w w':=by
 have d:=cb (show∀x,Below w.heap.size w (w.alloc x)from fun x=>cU);unfold eW;rcases c with rfl|rfl|rfl|rfl;all_goals
  go_wp2
  go_ret
  exact⟨ir rfl,d.out _⟩
end Go.Proofs.YtlonjggfnleolaaGreatDoor
