import Derived.Test.YtlonjggfnleolaaGreatDoorSpec
namespace Go.Proofs.YtlonjggfnleolaaGreatDoor
open Go.RowKit Go.Proofs.Tryz
set_option linter.unusedVariables false
set_option maxHeartbeats 2000000
def Du (a:Bool)(s:ByteArray):Value:=bif a then .tuple #[.string s,.int .i64 0]else .tuple #[.string ⟨#[]⟩,.int .i64 1]
section
variable (d k:Int)(a:Option Addr)(n c:Nat)
theorem Lq (m:List ByteArray)(f p:ByteArray)(q:Bool)(i id:Int)(w:World)(s:dH w a n c m)(t:f.size<=maxLen):Calls prog 21 #[.int .i64 d,db k (.slice a n c) f p q i,.int .i64 id] w fun e w'=>e= .returned (Du (fp k m f&&jY d k n id) (uy d k m f id))/\Below w.heap.size w w':=by
 by_cases A:d=1
 .subst A;rcases j:fp k m f with _|_
  .exact Js k a n c m f p q i id w s t j
  .refine Gn k a n c m f p q i id w s t j (lE k m f) rfl fun W u=>?_
   have R:=nj j;obtain⟨y,z,E,F,v⟩:=u;rcases v with⟨b,o,rfl,x,l⟩|⟨rfl,rfl⟩
   .subst y;exact Of k b o c m f p q i id W R x z l
   .exact absurd R.xn (by simp)
 by_cases B:d=2
 .subst B;rcases j:fp k m f with _|_
  .exact Jt k a n c m f p q i id w s t j
  .rcases g:gI k n id with _|_
   .have e:(jY 2 k n id)=false:=by unfold jY;rw[g];rfl
    rw[e];exact QQ k a n c m f p q i id w s t j g
   .have e:(jY 2 k n id)=true:=by unfold jY;rw[g];rfl
    rw[e];have R:=nj j;have C:m.length=1:=by
     by_cases H:k=1
     .have I:=s.len;unfold gI at g;simp[H]at g;omega
     .exact R.one H
    match m,C,R with
    | [r],_,R=>
     refine Gp k a n c [r] f p q i id w s t j _ g fun W u=>?_
     have hid:0<=id/\id<=65535:=by
      unfold gI at g;simp at g;omega
     obtain⟨y,z,E,F,v⟩:=u;rcases v with⟨b,o,rfl,x,l⟩|⟨h,rfl⟩
     .have:n=1:=by grind
      subst this;exact MX k b o c r f p q i id W R.kind x (l 0 r rfl) (R.keys r (by simp)) R.xi hid.1 hid.2
     .simp at h
 by_cases D:d=3
 .subst D;rcases j:fp k m f with _|_
  .exact Ju k a n c m f p q i id w s t j
  .refine Gq k a n c m f p q i id w s t j _ rfl fun W u=>?_
   have R:=nj j;obtain⟨y,z,E,F,v⟩:=u;rcases v with⟨b,o,rfl,x,l⟩|⟨rfl,rfl⟩
   .subst y;exact Oi k b o c m f p q i id W R x z l
   .exact absurd R.xn (by simp)
 have e:jY d k n id=false:=by unfold jY uf;simp[A,B,D]
 rw[e,kH];exact QP d k a n c f p q i id w A B D
theorem Rd (b i:ByteArray)(j:Bool)(f id:Int)(w:World)(h:d<1\/3<d):Calls prog 140 #[.int .i64 d,db k (.slice a n c) b i j f,.int .i64 id] w fun e w'=>e= .returned (.bool false)/\Below w.heap.size w w':=by
 have l:∀x,Below w.heap.size w (w.alloc x):=fun x=>cU
 have g:=cb l;rcases h with h|h
 .go_wp2;go_ret;exact⟨rfl,g.out _⟩
 .have m:¬d<1:=by omega
  go_wp2;go_ret;exact⟨rfl,g.out _⟩
theorem Rc (b i:ByteArray)(j:Bool)(f id:Int)(w:World)(h:d=1\/d=3):Calls prog 140 #[.int .i64 d,db k (.slice a n c) b i j f,.int .i64 id] w fun e w'=>e= .returned (.bool true)/\Below w.heap.size w w':=by
 have l:∀x,Below w.heap.size w (w.alloc x):=fun x=>cU
 have g:=cb l;rcases h with rfl|rfl
 .go_wp2;go_ret;exact⟨rfl,g.out _⟩
 .go_wp2;go_ret;exact⟨rfl,g.out _⟩
end
theorem AO (k:Int)(a:Option Addr)(n c:Nat)(d m:ByteArray)(o:Bool)(f id:Int)(w:World):Calls prog 140 #[.int .i64 2,db k (.slice a n c) d m o f,.int .i64 id] w fun e w'=>e= .returned (.bool (gI k n id))/\Below w.heap.size w w':=by
 unfold db;have p:∀x,Below w.heap.size w (w.alloc x):=fun x=>cU
 have b:=cb p;by_cases g:0<=id
 .by_cases h:id<=65535
  .by_cases i:k=1
   .subst i;go_wp2;go_ret;exact⟨cY (by rw[Sj n];simp[gI,g,h]),b.out _⟩
   .have q:(k != 1)=true:=by simpa using i
    go_wp2;go_ret;exact⟨cY (by simp[gI,g,h,i]),b.out _⟩
  .have j:=h;go_wp2;go_ret;exact⟨cY (by
    have:decide (id<=65535)=false:=by simpa using j
    simp[gI,this]),b.out _⟩
 .have l:=g;go_wp2;go_ret;exact⟨cY (by
   have:decide (0<=id)=false:=by simpa using l
   simp[gI,this]),b.out _⟩
theorem kt (d k:Int)(a:Option Addr)(n c:Nat)(b h:ByteArray)(i:Bool)(f id:Int)(w:World):Calls prog 140 #[.int .i64 d,db k (.slice a n c) b h i f,.int .i64 id] w fun e w'=>e= .returned (.bool (jY d k n id))/\Below w.heap.size w w':=by
 by_cases j:d=2
 .subst j;have e:jY 2 k n id=gI k n id:=by unfold jY;rcases gI k n id<;>rfl
  exact AO k a n c b h i f id w
 by_cases g:d<1\/3<d
 .have e:jY d k n id=false:=by
   unfold jY uf;have m:d≠1:=by omega
   have o:d≠3:=by omega
   simp[m,j,o]
  rw[e];exact Rd d k a n c b h i f id w g
 .have l:d=1\/d=3:=by omega
  have e:jY d k n id=true:=by
   unfold jY uf;rcases l with rfl|rfl<;>simp
  rw[e];exact Rc d k a n c b h i f id w l
def nm (s:ByteArray):ByteArray:=⟨#[36]⟩++sizedB s
theorem xc (s:ByteArray)(w:World)(a:s.size<100):Calls prog 143 #[.string s] w fun e w'=>e= .returned (.string (nm s))/\∃q,w'=w.drewN q:=by
 have c:=fT s.size;have b:=cb (show(⟨#[36]⟩:ByteArray)++gh s.size++⟨#[10]⟩++s++⟨#[10]⟩=nm s by simp[nm,sizedB,ByteArray.append_assoc]);go_enter func143,ntmps143;go_wp2_with fail
 refine(mu s.size _ a).mono ?_;rintro e w' ⟨rfl,q,rfl⟩;go_wp2;go_ret;exact⟨ir b.out,_,rfl⟩
end Go.Proofs.YtlonjggfnleolaaGreatDoor
