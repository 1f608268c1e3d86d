import Derived.Test.YtlonjggfnleolaaGreatDoorFrRight
import Derived.Deep.AppendLies
import Derived.Maps.AppendAt
import Derived.Deep.DeepCutAuto
import Derived.Deep.CutBlock
set_option linter.unusedVariables false
set_option maxHeartbeats 4000000
set_option maxRecDepth 20000
namespace Go.Proofs.YtlonjggfnleolaaGreatDoor
open Go.RowKit Go.Proofs.Tryz
variable {w:World}{S:Nat}
def tK:Array Value:=#[.int .i64 0,.slice none 0 0,.string ⟨#[]⟩,.string ⟨#[]⟩,.bool false,.int .i64 0]
theorem setOther {k:Nat}(a:k≠S)(b c d e f g h i:Value):((((((((w.setCell ⟨S,0,none⟩ b).setCell ⟨S,1,none⟩ c).setCell ⟨S,2,none⟩ d).setCell ⟨S,3,none⟩ e).setCell ⟨S,4,none⟩ f).setCell ⟨S,5,none⟩ g).setCell ⟨S,6,none⟩ h).setCell ⟨S,7,none⟩ i).heap[k]?=w.heap[k]?:=by
 rw[cz _ ⟨S,7,none⟩ _ _ a,cz _ ⟨S,6,none⟩ _ _ a,cz _ ⟨S,5,none⟩ _ _ a,cz _ ⟨S,4,none⟩ _ _ a,cz _ ⟨S,3,none⟩ _ _ a,cz _ ⟨S,2,none⟩ _ _ a,cz _ ⟨S,1,none⟩ _ _ a,cz _ ⟨S,0,none⟩ _ _ a]
theorem KO {a:World}{B:Nat}(hb:Below B a w)(b:B<=S)(c d e f g h i j:Value):
 Below B a ((((((((w.setCell ⟨S,0,none⟩ c).setCell ⟨S,1,none⟩ d).setCell ⟨S,2,none⟩ e).setCell ⟨S,3,none⟩ f).setCell ⟨S,4,none⟩ g).setCell ⟨S,5,none⟩ h).setCell ⟨S,6,none⟩ i).setCell ⟨S,7,none⟩ j):=
 (((((((hb.setCell (p:=⟨S,0,none⟩) b _).setCell (p:=⟨S,1,none⟩) b _).setCell (p:=⟨S,2,none⟩) b _).setCell (p:=⟨S,3,none⟩) b _).setCell (p:=⟨S,4,none⟩) b _).setCell (p:=⟨S,5,none⟩) b _).setCell (p:=⟨S,6,none⟩) b _).setCell (p:=⟨S,7,none⟩) b _
theorem JO {s:ByteArray}(l:List UInt8)(h:¬s=⟨l.toArray⟩):(s.toList==l)=false:=by
 rw[dW];intro e;apply h;rw[Lib.toList_data]at e;rw[<-e]
theorem lh (s:ByteArray)(w:World):Calls prog 224 #[.string s] w fun e w'=>e= .returned (.int .i64 (gj s))/\w'=w:=by
 by_cases a:s=⟨#[103,101,116]⟩
 .subst a;go_wp2;go_ret;exact⟨rfl,rfl⟩
 by_cases b:s=⟨#[115,101,116]⟩
 .subst b;go_wp2;go_ret;exact⟨rfl,rfl⟩
 by_cases c:s=⟨#[100,101,108]⟩
 .subst c;go_wp2;go_ret;exact⟨rfl,rfl⟩
 have f:=JO _ a;have g:=JO _ b;have h:=JO _ c;have d:gj s=0:=by simp[gj,a,b,c]
 rw[d];go_wp2;go_ret;exact⟨rfl,rfl⟩
def GA (r:Option Nat):Value:= .tuple #[.int .i64 (r.getD 0),.bool r.isSome]
theorem sM (l:List UInt8)(b:UInt8):jd (l++[b])=jd l*10+(b.toNat-48):=by simp[jd]
theorem tL:∀(l:List UInt8),l.all PH=true->jd l<10 ^ l.length:=by
 suffices h:∀(k:Nat) (l:List UInt8),l.length=k->l.all PH=true->jd l<10 ^ k by intro l a;exact h _ l rfl a
 intro k;induction k with
 |zero=>intro l h _;have:=dw.1 h;subst this;simp[jd]
 |succ k d=>
  intro c e h;obtain⟨l,b,rfl⟩:∃l b,c=l++[b]:=⟨c.dropLast,c.getLast (by grind),(List.dropLast_concat_getLast _).symm⟩
  have a:l.length=k:=by grind
  rw[kg,cO]at h;have g:=d l a h.1;have f:PH b=true:=by simp_all
  simp only[PH,cO,cX]at f;rw[sM,Nat.pow_succ];omega
theorem GF (s:ByteArray)(w:World)(F:s.size<=maxLen):Calls prog 227 #[.string s] w fun e w'=>e= .returned (GA (om s))/\w'=w:=by
 unfold maxLen at F;have j:Hid (om s=if s.size<1\/3<s.size\/(1<s.size/\s.data.toList.getD 0 0=48)then none else if s.data.toList.all PH then some (jd s.data.toList)else none):=rfl;generalize om s=R at*;by_cases z:s.size<1
 .have c:R=none:=by rw[j.out];simp[z]
  subst c;have d:(s.size:Int)<1:=by omega
  go_wp2;go_ret2;exact⟨rfl,rfl⟩
 by_cases A:3<s.size
 .have c:R=none:=by rw[j.out];simp[A]
  subst c;have d:¬(s.size:Int)<1:=by omega
  have n:(3:Int)<s.size:=by omega
  go_wp2;go_ret2;exact⟨rfl,rfl⟩
 have H:0<s.size:=by omega
 have B:s.data.toList.getD 0 0=s[0]:=by
  rw[List.getD,cp (by simpa using H)];rfl
 by_cases o:1<s.size/\s[0]=48
 .have c:R=none:=by rw[j.out,cN];exact .inr (.inr ⟨o.1,B.trans o.2⟩)
  subst c;obtain⟨I,J⟩:=o;have d:¬(s.size:Int)<1:=by omega
  have n:¬(3:Int)<s.size:=by omega
  have K:(1:Int)<s.size:=by omega
  go_wp2;go_ret2;exact⟨rfl,rfl⟩
 have p:Hid (R=if s.data.toList.all PH then some (jd s.data.toList)else none):=by
  show _=_;rw[j.out,cD];rw[B];rintro (h|h|h)
  .exact z h
  .exact A h
  .exact o h
 clear j;have d:¬(s.size:Int)<1:=by omega
 have n:¬(3:Int)<s.size:=by omega
 have L:Hid (∀l:List UInt8,l.all PH=true->jd l<10 ^ l.length):=tL;have q:∀a:Act,∀(Q:a.tmps=a.tmps),True:=fun _ _=>Qa
 clear q;by_cases S:s.size=1;case' pos=>
  have r:¬(1:Int)<s.size:=by omega
 case' neg=>
  have r:(1:Int)<s.size:=by omega
  have M:¬s[0]=48:=fun h=>o ⟨by omega,h⟩
  have T:((s[0].toNat:Int)==48)=false:=by
   rw[dW];intro h;apply M;apply nv.1;show s[0].toNat=48;omega
 all_goals
  go_wp2
  go_loop [4,26] (fun m i=>∃k:Nat,k<=s.size/\i= .int .i64 k/\m= .int .i64 (jd (s.data.toList.take k))/\(s.data.toList.take k).all PH=true) (fun _ i=>s.size-(intOf i).toNat)
  case atStart=>exact⟨0,cG _,rfl,rfl,by simp⟩
  case round=>
   obtain⟨k,U,rfl,rfl,b⟩:=hrel;have f:=L.out _ b;have N:jd (s.data.toList.take k)<1000:=cH f (by
    have:(s.data.toList.take k).length<=3:=by simp;omega
    exact mg (n:=10) (by decide) this)
   have C:Hid ((s.data.toList.take k).all PH=true):=b;clear b f;by_cases g:k<s.size
   .cases f:PH s[k]with
    |true=>
     have t:=f;simp only[PH,cO,cX]at t;obtain⟨u,v⟩:=t;have O:Hid (jd (s.data.toList.take (k+1))=jd (s.data.toList.take k)*10+(s[k].toNat-48)):=by show _=_;rw[kh s k g,sM]
     generalize jd (s.data.toList.take k)=D at*;go_wp2;go_round
     case rel=>exact⟨k+1,by omega,by go_num,by rw[O.out];go_num,by rw[kh s k g];simp[C.out,f]⟩
     case measure=>simp[intOf];omega
    |false=>
     have c:R=none:=by rw[p.out,vR g f];rfl
     subst c;have t:¬(48<=(s[k].toNat:Int)/\(s[k].toNat:Int)<=57):=by
      intro h;simp[PH,h.1,h.2]at f
     by_cases u:(s[k].toNat:Int)<48
     .go_wp2;go_ret2;exact⟨rfl,rfl⟩
     .have v:(57:Int)<s[k].toNat:=by omega
      go_wp2;go_ret2;exact⟨rfl,rfl⟩
   .have x:k=s.size:=by omega
    subst x;have P:s.data.toList.take s.size=s.data.toList:=dt (by simp);have y:Hid (R=some (jd (s.data.toList.take s.size))):=by show _=_;have E:=C.out;rw[P]at E⊢;rw[p.out,cN E]
    clear p;generalize jd (s.data.toList.take s.size)=D at*;go_wp2;go_ret2;exact⟨by rw[y.out];rfl,rfl⟩
theorem tC (a:List ByteArray)(b o c:Nat)(w:World)(d:∀(i:Nat) (s:ByteArray),a[i]?=some s->w.cell? ⟨b,o+i,none⟩=some (.string s))(hb:b<w.heap.size)(g:a.length<=c)(v:a.length<=maxLen)(j:∀s∈a,s.size<=maxLen):Calls prog 222 #[.slice (some ⟨b,o,none⟩) a.length c] w fun e w'=>e= .returned (GA (iZ a))/\w'=w:=by
 by_cases k:a.length=3
 .match a,k with
  | [x,y,z],_=>
   have p:=d 0 x rfl;have A:=d 1 y rfl;have q:=d 2 z rfl;have l:=j y (by simp);have r:=j z (by simp);simp only[im]at p;have f:iZ [x,y,z]=if gj x=2/\iX y=true then om z else none:=by simp[iZ]
   rw[f];by_cases m:gj x=2
   .cases t:iX y with
    |true=>
     rw[cN ⟨m,rfl⟩];go_enter func222,ntmps222;go_wp2_with (first|(refine(lh _ _).mono ?_;rintro e w' ⟨rfl,rfl⟩)|(refine(pT _ _ l).mono ?_;rintro e w' ⟨rfl,rfl⟩)|(refine(GF _ _ r).mono ?_;rintro e w' ⟨rfl,rfl⟩;unfold GA))
     go_ret2;exact⟨rfl,rfl⟩
    |false=>
     rw[cD (by simp)];go_enter func222,ntmps222;go_wp2_with (first|(refine(lh _ _).mono ?_;rintro e w' ⟨rfl,rfl⟩)|(refine(pT _ _ l).mono ?_;rintro e w' ⟨rfl,rfl⟩))
     go_ret2;exact⟨rfl,rfl⟩
   .rw[cD (fun h=>m h.1)];go_enter func222,ntmps222;go_wp2_with (refine(lh _ _).mono ?_;rintro e w' ⟨rfl,rfl⟩)
    go_ret2;exact⟨rfl,rfl⟩
 .have f:iZ a=none:=by simp[iZ,k]
  rw[f];have u:((a.length:Int)==3)=false:=by rw[dW];omega
  generalize a.length=n at*;go_wp2;go_ret2;exact⟨rfl,rfl⟩
variable {a x:List UInt8}{i n b d:Nat}{s:WS}{c:UInt8}
theorem lq (h:i<a.length):ep (a++x) i=ep a i:=by
 simp[ep,List.getD,List.getElem?_append_left h]
theorem sR (h:i<a.length):(a++x).getD i 0=a.getD i 0:=by grind
theorem rr (h:i+1<a.length):dM (a++x) i=dM a i:=by
 rw[dM,dM,lq (by omega),lq h]
theorem nH {k:Nat}(h:i+k<=a.length):bytesOf (a++x) i k=bytesOf a i k:=by
 unfold bytesOf;rw[oZ (by omega),jn (by simp;omega)]
theorem uA (h:7<=a.length):iR (a++x)=iR a:=by
 unfold iR;rw[lq (by omega),lq (by omega),lq (by omega),rr (by omega)]
theorem JW {s:iC}(x:List UInt8)(h:uN a=some s):uN (a++x)=some s/\1<=s.used/\s.used<=a.length:=by
 unfold uN at h;split at h
 .cases h
 unfold uN;rw[cD (by simp;omega),uA (by omega)];split at h
 .rename_i b;rw[cN b];cases h;exact⟨rfl,by simp_all,by grind⟩
 rename_i b;rw[cD b,lq (by omega),lq (by omega),rr (by omega),rr (by omega)];split at h
 .cases h
 rw[cD (by simp;omega),nH (by omega),nH (by omega)];split at h
 .rename_i c;rw[cN c];cases h;exact⟨rfl,by grind,by grind⟩
 .rename_i c;rw[cD c];cases h;exact⟨rfl,by grind,by grind⟩
theorem jh:∀(l m:List UInt8) (c:UInt8),0<=Go.Lib.indexByte l c->Go.Lib.indexByte (l++m) c=Go.Lib.indexByte l c/\(Go.Lib.indexByte l c).toNat<l.length/\l.getD (Go.Lib.indexByte l c).toNat 0=c:=by
 intro l;induction l with
 |nil=>intro m c h;simp[Go.Lib.indexByte]at h
 |cons b l e=>
  intro m c h;simp only[ja]
  by_cases j:(b==c)=true
  .have a:b=c:=by simp_all
   simp[Go.Lib.indexByte,a]
  .have a:(b==c)=false:=by grind
   unfold Go.Lib.indexByte at h⊢;simp only[a,fX,jG]at h⊢;by_cases f:Go.Lib.indexByte l c= -1
   .simp[f]at h
   .obtain⟨g,k,i⟩:=e m c (by omega);have d:(Go.Lib.indexByte l c== -1)=false:=by grind
    rw[g];simp only[d,fX,jG]at h⊢;have t2:(Go.Lib.indexByte l c+1).toNat=(Go.Lib.indexByte l c).toNat+1:=by omega
    refine⟨Qa,?_,?_⟩
    .simp;omega
    .rw[t2,List.getD_cons_succ];exact i
theorem IJ {b c:Nat}{e:ByteArray}{s:iC}(x:List UInt8)(h:sE a b e c=some s)(g:1<=b)(i:b<=a.length):sE (a++x) b e c=some s/\1<=s.used/\s.used<=a.length:=by
 unfold sE at h⊢;split at h
 .rename_i d;rw[cN d];cases h;exact⟨rfl,g,i⟩
 rename_i d;rw[cD d];split at h
 .cases h
 rw[cD (by simp;omega),sR (by omega),nH (by omega)];split at h
 .rename_i f;rw[cN f];cases h;exact⟨rfl,by grind,by grind⟩
 .rename_i f;rw[cD f];cases h;exact⟨rfl,by simp,by grind⟩
theorem EM {e:Nat}{s:iC}(x:List UInt8)(h:ph a e=some s)(c:e<a.length):ph (a++x) e=some s/\1<=s.used/\s.used<=a.length:=by
 unfold ph at h⊢;rw[jn (by omega)];split at h
 .exact IJ x h (by omega) (by omega)
 .split at h
  .cases h;rename_i b;rw[cN b];exact⟨rfl,by grind,by grind⟩
  .cases h;rename_i b;rw[cD b];exact⟨rfl,by simp_all,by grind⟩
theorem Kd {s:iC}(x:List UInt8)(h:vO a=some s):vO (a++x)=some s/\1<=s.used/\s.used<=a.length:=by
 unfold vO at h⊢;have c:(a++x).take 61=a.take 61++x.take (61-a.length):=List.take_append;split at h
 .rename_i b;obtain⟨d,f,_⟩:=jh (a.take 61) (x.take (61-a.length)) 10 b;rw[c,d,cN b];exact EM x h (by grind)
 .rename_i b;split at h
  .have e:61-a.length=0:=by omega
   rw[c,e,jT,il,cD b,cN (by simp;omega)];cases h;exact⟨rfl,by simp,by grind⟩
  .cases h
structure WS.ok (n:Nat)(s:WS):Prop where
 pos:s.pos<=n
 bad:s.fG=true->s.pos<n/\s.short=false
theorem qa (h:(s.look n).short=false):s.short=false/\s.pos≠n/\s.look n=s:=by
 obtain⟨p,wr,b⟩:=s;simp only[WS.look,me,eG]at h⊢;obtain⟨rfl,a⟩:=h;simp[a]
theorem look_ok (h:s.ok n):(s.look n).ok n:=by
 obtain⟨p,wr,d⟩:=s;refine⟨h.pos,fun b=>?_⟩;obtain⟨c,a⟩:=h.bad b;refine⟨c,?_⟩;simp only[WS.look,me,eG]at a⊢;exact⟨a,by grind⟩
theorem AD {m:Nat}(h:s.ok n)(a:(s.look n).short=false):s.look (n+m)=s.look n:=by
 obtain⟨b,c,d⟩:=qa a;have:=h.pos;obtain⟨p,wr,e⟩:=s;simp only[WS.look]at*;subst b;simp;omega
theorem oK (h:s.ok a.length):(dY a c s).ok a.length:=by
 unfold dY;split
 .exact look_ok h
 .rename_i b;simp only[fA,not_or,mE]at b;obtain⟨e,f,g⟩:=qa b.1;have:=h.pos;split
  .exact⟨by grind,fun d=>by cases d⟩
  .exact⟨this,fun _=>⟨by grind,rfl⟩⟩
theorem rP (x:List UInt8)(h:s.ok a.length)(b:(dY a c s).short=false):dY (a++x) c s=dY a c s/\s.short=false:=by
 have d:(s.look a.length).short=false:=by
  cases e:(s.look a.length).short with
  |false=>rfl
  |true=>unfold dY at b;rw[cN (by rw[e];rfl),e]at b;cases b
 obtain⟨f,g,i⟩:=qa d;have:=h.pos;unfold dY;rw[cI,AD h d,sR (by omega)];exact⟨rfl,f⟩
theorem vX:∀(f p n:Nat) (c:Bool),p+f=a.length->(eJ a b d f p n c).2.ok a.length:=by
 intro f;induction f with
 |zero=>intro p n c h;exact⟨by show p<=_;omega,fun e=>by cases e⟩
 |succ f g=>
  intro p n c h;unfold eJ;split
  .exact⟨by grind,fun e=>by cases e⟩
  .split
   .exact⟨by grind,fun _=>⟨by grind,rfl⟩⟩
   .exact g _ _ _ (by omega)
theorem Cq (x:List UInt8):∀(f p n:Nat) (c:Bool),p+f=a.length->(eJ a b d f p n c).2.short=false->eJ (a++x) b d (f+x.length) p n c=eJ a b d f p n c:=by
 intro f;induction f with
 |zero=>intro p n c h g;cases g
 |succ f k=>
  intro p n c h g;have e:f+1+x.length=(f+x.length)+1:=by omega
  rw[e];unfold eJ at g⊢;rw[sR (by omega),lq (by omega)];split at g
  .rename_i i;rw[cN i,cN i]
  .rename_i i;rw[cD i,cD i];split at g
   .rename_i j;rw[cN j,cN j]
   .rename_i j;rw[cD j,cD j];exact k _ _ _ (by omega) g
theorem Pz (h:s.ok a.length):(fC a b d s).2.ok a.length:=by
 have:=h.pos;unfold fC;split
 .exact look_ok h
 .exact vX _ _ _ _ (by omega)
theorem wN (x:List UInt8)(h:s.ok a.length)(c:(fC a b d s).2.short=false):fC (a++x) b d s=fC a b d s/\s.short=false:=by
 have f:(s.look a.length).short=false:=by
  cases g:(s.look a.length).short with
  |false=>rfl
  |true=>unfold fC at c;rw[cN (by rw[g];rfl)]at c;simp only[g]at c;cases c
 obtain⟨i,k,l⟩:=qa f;have:=h.pos;unfold fC at c⊢;rw[cI,AD h f];refine⟨?_,i⟩;split
 .rfl
 .rename_i j;rw[cD j]at c;have e:a.length+x.length-s.pos=(a.length-s.pos)+x.length:=by omega
  rw[e];exact Cq x _ _ _ _ (by omega) c
theorem DJ (h:s.ok a.length):(ib a n s).2.ok a.length:=by
 have:=h.pos;unfold ib;split
 .exact h
 .rename_i b;simp only[fA,not_or,mE]at b;split
  .exact⟨this,fun c=>by simp_all⟩
  .exact⟨by grind,fun c=>by grind⟩
theorem Fy (x:List UInt8)(h:s.ok a.length)(b:(ib a n s).2.short=false):ib (a++x) n s=ib a n s/\s.short=false:=by
 unfold ib at b⊢;split at b
 .rename_i c;rw[cN c,cN c];exact⟨rfl,b⟩
 .rename_i c;split at b
  .cases b
  .rename_i d;rw[cD c,cD c,cD d,cD (by simp;omega),nH (by omega)];exact⟨rfl,b⟩
theorem BA (h:s.ok a.length):(mL a s).2.ok a.length:=oK (DJ (Pz (oK h)))
theorem Hy (x:List UInt8)(h:s.ok a.length)(b:(mL a s).2.short=false):mL (a++x) s=mL a s/\s.short=false:=by
 unfold mL at b⊢;simp only at b⊢;have c:=oK (c:=36) h;have d:=Pz (b:=0) (d:=40) c;have e:=DJ (n:=(fC a 0 40 (dY a 36 s)).1) d;obtain⟨f,g⟩:=rP x e b;obtain⟨i,j⟩:=Fy x d g;obtain⟨k,l⟩:=wN x c j;obtain⟨m,n⟩:=rP x h l;rw[m,k,i,f];exact⟨rfl,n⟩
theorem Qq:∀(k:Nat) (s:WS) (b:List ByteArray),s.ok a.length->(fO a k s b).2.ok a.length:=by
 intro k;induction k with
 |zero=>intro s b h;exact h
 |succ k c=>intro s b h;exact c _ _ (BA h)
theorem xh (x:List UInt8):∀(k:Nat) (s:WS) (b:List ByteArray),s.ok a.length->(fO a k s b).2.short=false->fO (a++x) k s b=fO a k s b/\s.short=false:=by
 intro k;induction k with
 |zero=>intro s b h c;exact⟨rfl,c⟩
 |succ k d=>
  intro s b h c;unfold fO at c⊢;obtain⟨e,f⟩:=d _ _ (BA h) c;obtain⟨g,i⟩:=Hy x h f;rw[g,e];exact⟨rfl,i⟩
theorem xg (a:List ByteArray)(u:Nat):(gE a u).used=u:=by
 unfold gE;simp only
 (repeat' split)<;>rfl
theorem CE (c:UInt8)(h:(dY a c ⟨0,false,false⟩).fG=false)(b:(dY a c ⟨0,false,false⟩).short=false):1<=(dY a c ⟨0,false,false⟩).pos:=by
 unfold dY at h b⊢;split at b
 .rename_i hc;simp only[fA,b]at hc;rcases hc with hc|hc<;>cases hc
 .rename_i hc;rw[cD hc]at h⊢;split at h
  .rename_i d;rw[cN d];show 1<=0+1;omega
  .cases h
theorem sP:s.pos<=(dY a c s).pos:=by
 unfold dY;split
 .exact PC _
 .split
  .show s.pos<=s.pos+1;omega
  .exact PC _
theorem Eh:∀(f p n:Nat) (c:Bool),p<=(eJ a b d f p n c).2.pos:=by
 intro f;induction f with
 |zero=>intro p n c;exact PC _
 |succ f e=>
  intro p n c;unfold eJ;split
  .show p<=p+1;omega
  .split
   .exact PC _
   .exact cP (by omega) (e (p+1) _ _)
theorem rM:s.pos<=(fC a b d s).2.pos:=by
 unfold fC;split
 .exact PC _
 .exact Eh _ _ _ _
theorem Qp:s.pos<=(ib a n s).2.pos:=by
 unfold ib;split
 .exact PC _
 .split
  .exact PC _
  .show s.pos<=s.pos+n;omega
theorem Kr:s.pos<=(mL a s).2.pos:=
 cP (cP sP rM) (cP Qp sP)
theorem uJ:∀(k:Nat) (s:WS) (b:List ByteArray),s.pos<=(fO a k s b).2.pos:=by
 intro k;induction k with
 |zero=>intro s b;exact PC _
 |succ k c=>intro s b;exact cP Kr (c _ _)
theorem qQ (h:s.fG=true):(dY a c s).fG=true:=by
 unfold dY;rw[cN (by simp[h])];exact h
theorem pO (h:s.fG=true):(fC a b d s).2.fG=true:=by
 unfold fC;rw[cN (by simp[h])];exact h
theorem tG (h:s.fG=true):(ib a n s).2.fG=true:=by
 unfold ib;rw[cN (by simp[h])];exact h
theorem sg:∀(k:Nat) (s:WS) (b:List ByteArray),s.fG=true->(fO a k s b).2.fG=true:=by
 intro k;induction k with
 |zero=>intro s b h;exact h
 |succ k c=>intro s b h;exact c _ _ (qQ (tG (pO (qQ h))))
theorem Kg {s:iC}(x:List UInt8)(h:zq a=some s):zq (a++x)=some s/\1<=s.used/\s.used<=a.length:=by
 unfold zq at h⊢;simp only at h⊢;have e:(⟨0,false,false⟩:WS).ok a.length:=⟨cG _,fun b=>by cases b⟩
 have f:=oK (c:=42) e;have g:=Pz (b:=1) (d:=5) f;have c:=Qq (fC a 1 5 (dY a 42 ⟨0,false,false⟩)).1 _ [] g;have d:(fO a (fC a 1 5 (dY a 42 ⟨0,false,false⟩)).1 (fC a 1 5 (dY a 42 ⟨0,false,false⟩)).2 []).2.short=false:=by
  split at h
  .rename_i b;exact(c.bad b).2
  .split at h
   .cases h
   .rename_i j;simpa using j
 obtain⟨k,l⟩:=xh x _ _ [] g d;obtain⟨m,i⟩:=wN x f l;obtain⟨n,q⟩:=rP x e i;rw[n,m,k];refine⟨h,?_⟩;split at h
 .rename_i b;cases h;exact⟨by simp_all,by show _+1<=_;have:=(c.bad b).1;omega⟩
 .rename_i b;split at h
  .cases h
  .cases h;rw[xg];refine⟨?_,c.pos⟩;have o:(dY a 42 ⟨0,false,false⟩).fG=false:=by
    cases p:(dY a 42 ⟨0,false,false⟩).fG with
    |false=>rfl
    |true=>exact absurd (sg _ _ _ (pO p)) b
   exact cP (CE 42 o i) (cP rM (uJ _ _ _))
theorem rZ {d:Int}{s:iC}(x:List UInt8)(h:fw d a=some s):fw d (a++x)=some s/\1<=s.used/\s.used<=a.length:=by
 unfold fw at h⊢;split at h
 .rename_i b;rw[cN b];exact Kd x h
 .rename_i b;rw[cD b];split at h
  .rename_i c;rw[cN c];exact JW x h
  .rename_i c;rw[cD c];exact Kg x h
variable {d:Int}{t:iC}
structure St where
 held:List UInt8
 pass:Bool
 closed:Bool
def iH (l:List UInt8):List UInt8×Bool:=if 0<=Go.Lib.indexByte l 10 then(l.drop ((Go.Lib.indexByte l 10).toNat+1),false)else([],true)
def jL (s:St)(p:List UInt8):St:=
 if s.closed then s else if s.pass then⟨(iH (s.held++p)).1,(iH (s.held++p)).2,false⟩else⟨s.held++p,false,false⟩
def fm (s:St)(t:iC):St:=
 if t.c.fatal then⟨[],false,true⟩else if t.skip then⟨(iH (s.held.drop t.used)).1,(iH (s.held.drop t.used)).2,s.closed⟩else⟨s.held.drop t.used,s.pass,s.closed⟩
def rN (d:Int):Nat->St->List iO×St
 |0,s=>([],s)
 |f+1,s=>match fw d s.held with
  |none=>([],s)
  |some t=>(t.c::(rN d f (fm s t)).1,(rN d f (fm s t)).2)
def iP (d:Int)(s:St):List iO×St:=rN d s.held.length s
def PU (d:Int)(s:St)(p:List UInt8):List iO×St:=iP d (jL s p)
structure St.ok (s:St):Prop where
 pass:s.pass=true->s.held=[]
 closed:s.closed=true->s.held=[]/\s.pass=false
theorem nO (d:Int):fw d []=none:=by
 cases h:fw d []with
 |none=>rfl
 |some s=>have:=(rZ [] h).2;simp at this;omega
theorem wz (l:List UInt8):(iH l).1.length<=l.length:=by
 unfold iH;split<;>simp
theorem EZ (l:List UInt8)(h:(iH l).2=true):(iH l).1=[]:=by
 unfold iH at h⊢;split at h
 .cases h
 .rename_i a;rw[cD a]
theorem jc {s:St}(h:fw d s.held=some t):(fm s t).held.length<s.held.length:=by
 obtain⟨_,a,b⟩:=rZ [] h;unfold fm;split
 .show 0<_;omega
 .split
  .have:=wz (s.held.drop t.used);show(iH (s.held.drop t.used)).1.length<_;simp at this;omega
  .simp;omega
theorem Cz (d:Int):∀(f:Nat) (s:St) (g:Nat),s.held.length<=f->f<=g->rN d g s=rN d f s:=by
 intro f;induction f with
 |zero=>
  intro s g h _;have a:s.held=[]:=dw.1 (by omega);cases g with
  |zero=>rfl
  |succ g=>unfold rN;rw[a,nO]
 |succ f b=>
  intro s g h e;obtain⟨g,rfl⟩:∃k,g=k+1:=⟨g-1,by omega⟩
  unfold rN;cases c:fw d s.held with
  |none=>rfl
  |some t=>
   have i:=jc c;simp only
   rw[b (fm s t) g (by omega) (by omega)]
theorem mw {s:St}(h:fw d s.held=none):iP d s=([],s):=by
 unfold iP;cases a:s.held.length with
 |zero=>rfl
 |succ f=>unfold rN;rw[h]
theorem qJ {s:St}(h:fw d s.held=some t):iP d s=(t.c::(iP d (fm s t)).1,(iP d (fm s t)).2):=by
 have b:=jc h;unfold iP;obtain⟨f,a⟩:∃f,s.held.length=f+1:=⟨s.held.length-1,by omega⟩
 rw[a];conv=>lhs;unfold rN
 rw[h];simp only
 rw[Cz d (fm s t).held.length (fm s t) f (PC _) (by omega)]
theorem ve (b:UInt8)(l:List UInt8)(c:UInt8):Go.Lib.indexByte (b::l) c=if b==c then 0 else if Go.Lib.indexByte l c== -1 then-1 else Go.Lib.indexByte l c+1:=rfl
theorem oN:∀(l m:List UInt8) (c:UInt8),¬0<=Go.Lib.indexByte l c->Go.Lib.indexByte (l++m) c=if 0<=Go.Lib.indexByte m c then(l.length:Int)+Go.Lib.indexByte m c else-1:=by
 intro l;induction l with
 |nil=>
  intro m c h;have:=Go.Lib.indexByte_ge m c;simp only[fI,fk]
  split
  .omega
  .omega
 |cons b l d=>
  intro m c h;rw[ja];rw[ve]at h⊢;cases f:(b==c)with
  |true=>simp[f]at h
  |false=>
   have g:¬0<=Go.Lib.indexByte l c:=by grind
   have e:=d m c g;rw[e];by_cases a:0<=Go.Lib.indexByte m c
   .have t:(((l.length:Int)+Go.Lib.indexByte m c)== -1)=false:=by grind
    simp only[a,pS,t,fX,jG,dc]
    omega
   .simp only[a,jG]
    rfl
theorem Ij (l m:List UInt8):iH (l++m)=if(iH l).2=true then iH m else((iH l).1++m,false):=by
 unfold iH;by_cases h:0<=Go.Lib.indexByte l 10
 .obtain⟨b,c,_⟩:=jh l m 10 h;rw[b,cN h,cN h];simp only[fX,jG]
  rw[oZ (by omega)]
 .rw[oN l m 10 h,cD h];simp only[pS]
  by_cases a:0<=Go.Lib.indexByte m 10
  .simp only[a,pS]
   rw[cN (by omega)];have e:((l.length:Int)+Go.Lib.indexByte m 10).toNat+1=l.length+((Go.Lib.indexByte m 10).toNat+1):=by omega
   rw[e,List.drop_append];simp
  .simp only[a,jG]
   rw[cD (by omega)]
theorem KX {s:St}(p:List UInt8)(h:s.ok):(jL s p).ok:=by
 unfold jL;split
 .exact h
 .split
  .exact⟨fun a=>EZ _ a,fun b=>(by cases b)⟩
  .exact⟨fun a=>(by cases a),fun b=>(by cases b)⟩
theorem live {s:St}(h:s.ok)(c:fw d s.held=some t):s.closed=false/\s.pass=false:=by
 have a:s.held≠[]:=by intro e;rw[e,nO]at c;cases c
 refine⟨?_,?_⟩
 .cases b:s.closed with
  |false=>rfl
  |true=>exact absurd (h.closed b).1 a
 .cases b:s.pass with
  |false=>rfl
  |true=>exact absurd (h.pass b) a
def AU:St:=⟨[],false,false⟩
theorem KU:AU.ok:=⟨fun _=>rfl,fun _=>⟨rfl,rfl⟩⟩
variable {a:List UInt8}{s:WS}{c g n:Nat}{b:UInt8}{t:iC}{d:Int}
theorem sO (x:List UInt8){c:UInt8}(d:(dY (a++x) c s).fG=false)(f:(dY (a++x) c s).short=false)(g:(dY (a++x) c s).pos<=a.length):dY a c s=dY (a++x) c s/\s.fG=false/\s.short=false:=by
 unfold dY at d f g⊢;by_cases e:((s.look (a++x).length).short || s.fG)=true
 .rw[cN e]at d f;have h:s.fG=false:=d;rw[f,h]at e;cases e
 .rw[cD e]at d f g⊢;have b:=e;simp only[fA,not_or,mE]at b;obtain⟨j,l,m⟩:=qa b.1;split at d
  .rename_i i;rw[cN i]at g⊢;have k:s.pos+1<=a.length:=g;have n:(s.look a.length).short=false:=by
    simp only[WS.look,j,jI,eG];omega
   rw[sR (by omega)]at i;rw[cD (by grind),cN i];exact⟨rfl,b.2,j⟩
  .cases d
theorem Ah:∀(f p n:Nat) (b:Bool),(eJ a c g f p n b).2.fG=false->(eJ a c g f p n b).2.short=false->p+1<=(eJ a c g f p n b).2.pos:=by
 intro f;induction f with
 |zero=>intro p n b _ d;cases d
 |succ f i=>
  intro p n b e d;unfold eJ at e d⊢;split at e
  .rename_i h;rw[cN h];exact PC _
  .rename_i h;rw[cD h]at d⊢;split at e
   .cases e
   .rename_i j;rw[cD j]at d⊢;exact cP (by omega) (i _ _ _ e d)
section
variable (x:List UInt8)
theorem Ef:∀(f p n:Nat) (b:Bool),p+f=a.length->(eJ (a++x) c g (f+x.length) p n b).2.fG=false->(eJ (a++x) c g (f+x.length) p n b).2.short=false->(eJ (a++x) c g (f+x.length) p n b).2.pos<=a.length->eJ a c g f p n b=eJ (a++x) c g (f+x.length) p n b:=by
 intro f;induction f with
 |zero=>
  intro p n b h d i j;have:=Ah _ _ _ _ d i;omega
 |succ f m=>
  intro p n b h d i j;have e:f+1+x.length=(f+x.length)+1:=by omega
  rw[e]at d i j⊢;unfold eJ at d i j⊢;rw[sR (by omega),lq (by omega)]at d i j⊢;split at d
  .rename_i k;rw[cN k,cN k]
  .rename_i k;rw[cD k]at i j⊢;rw[cD k];split at d
   .cases d
   .rename_i l;rw[cD l]at i j⊢;rw[cD l];exact m _ _ _ (by omega) d i j
theorem xZ (b:(fC (a++x) c g s).2.fG=false)(d:(fC (a++x) c g s).2.short=false)(i:(fC (a++x) c g s).2.pos<=a.length):fC a c g s=fC (a++x) c g s/\s.fG=false/\s.short=false:=by
 unfold fC at b d i⊢;by_cases h:((s.look (a++x).length).short || s.fG)=true
 .rw[cN h]at b d;have j:s.fG=false:=b;have k:=d;rw[k,j]at h;cases h
 .rw[cD h]at b d i⊢;have f:=h;simp only[fA,not_or,mE]at f;obtain⟨l,o,p⟩:=qa f.1;have m:=Ah _ _ _ _ b d;have q:(s.look a.length).short=false:=by
   simp only[WS.look,l,jI,eG];omega
  rw[cD (by grind)];have n:s.pos<a.length:=by omega
  have e:(a++x).length-s.pos=(a.length-s.pos)+x.length:=by grind
  rw[e]at b d i⊢;exact⟨Ef x _ _ _ _ (by omega) b d i,f.2,l⟩
theorem Rw (e:(ib (a++x) n s).2.fG=false)(c:(ib (a++x) n s).2.short=false)(f:(ib (a++x) n s).2.pos<=a.length):ib a n s=ib (a++x) n s/\s.fG=false/\s.short=false:=by
 unfold ib at e c f⊢;by_cases d:(s.fG || s.short)=true
 .rw[cN d]at e c;have g:=e;have h:=c;rw[h,g]at d;cases d
 .rw[cD d]at e c f⊢;have b:=d;simp only[fA,not_or,mE]at b;split at c
  .cases c
  .rename_i i;rw[cD i]at f⊢;have j:s.pos+n<=a.length:=f;rw[cD d,cD (by omega),nH (by omega)];exact⟨rfl,b.1,b.2⟩
theorem Kq (c:(mL (a++x) s).2.fG=false)(d:(mL (a++x) s).2.short=false)(b:(mL (a++x) s).2.pos<=a.length):mL a s=mL (a++x) s/\s.fG=false/\s.short=false:=by
 unfold mL at c d b⊢;simp only at c d b⊢;obtain⟨g,h,i⟩:=sO x c d b;have e:=cP sP b;obtain⟨j,k,l⟩:=Rw x h i e;have f:=cP Qp e;obtain⟨m,n,o⟩:=xZ x k l f;have p:=cP rM f;obtain⟨q,r,t⟩:=sO x n o p;rw[q,m,j,g];exact⟨rfl,r,t⟩
theorem FB:∀(k:Nat) (s:WS) (b:List ByteArray),(fO (a++x) k s b).2.fG=false->(fO (a++x) k s b).2.short=false->(fO (a++x) k s b).2.pos<=a.length->fO a k s b=fO (a++x) k s b/\s.fG=false/\s.short=false:=by
 intro k;induction k with
 |zero=>intro s b c d f;exact⟨rfl,c,d⟩
 |succ k g=>
  intro s b c d f;unfold fO at c d f⊢;have h:=uJ (a:=a++x) k (mL (a++x) s).2 (b++[(mL (a++x) s).1]);obtain⟨e,i,j⟩:=g _ _ c d f;obtain⟨l,m,n⟩:=Kq x i j (cP h f);rw[l,e];exact⟨rfl,m,n⟩
end
def Bb (n:Nat)(b:UInt8)(t:iC):Prop:=
 (t.c.fatal=true/\t.skip=false)\/(t.c.fatal=false/\t.skip=false/\t.used=n+1)\/(t.c.fatal=false/\t.skip=true/\(t.used=n+1\/(t.used=n/\b≠10)))
theorem vJ (a:List ByteArray)(u:Nat):(gE a u).c.fatal=false/\(gE a u).skip=false:=by
 unfold gE;simp only
 (repeat' split)<;>exact⟨rfl,rfl⟩
theorem Kf (d:zq a=none)(h:zq (a++[b])=some t):Bb a.length b t:=by
 unfold zq at h;simp only at h;split at h
 .cases h;exact .inl ⟨rfl,rfl⟩
 .rename_i e;split at h
  .cases h
  .rename_i i;cases h;have f:=Bool.eq_false_iff.2 e;have g:=Bool.eq_false_iff.2 i;have l:(⟨0,false,false⟩:WS).ok (a++[b]).length:=⟨cG _,fun e=>by cases e⟩
   have m:=Qq (fC (a++[b]) 1 5 (dY (a++[b]) 42 ⟨0,false,false⟩)).1 _ [] (Pz (b:=1) (d:=5) (oK (c:=42) l));have c:=m.pos;refine .inr (.inl ⟨(vJ _ _).1,(vJ _ _).2,?_⟩);rw[xg];by_cases j:(fO (a++[b]) (fC (a++[b]) 1 5 (dY (a++[b]) 42 ⟨0,false,false⟩)).1 (fC (a++[b]) 1 5 (dY (a++[b]) 42 ⟨0,false,false⟩)).2 []).2.pos<=a.length
   .obtain⟨n,o,p⟩:=FB [b] _ _ [] f g j;have k:=cP (uJ _ _ _) j;obtain⟨q,r,s⟩:=xZ [b] o p k;have u:=cP rM k;obtain⟨v,_,_⟩:=sO [b] r s u;unfold zq at d;simp only at d;rw[v,q,n,cD e,cD i]at d;cases d
   .simp at c;omega
theorem JV (c:uN a=none)(h:uN (a++[b])=some t):Bb a.length b t:=by
 unfold uN at h;split at h
 .cases h
 rename_i f;split at h
 .cases h;exact .inl ⟨rfl,rfl⟩
 rename_i g;split at h
 .cases h
 rename_i i;split at h
 .cases h;exact .inl ⟨rfl,rfl⟩
 rename_i j;cases h;refine .inr (.inl ⟨rfl,rfl,?_⟩);show 7+ep (a++[b]) 2+dM (a++[b]) 3=a.length+1;rw[cI]at i f;simp only[dc,fk]at i f;by_cases d:7+ep (a++[b]) 2+dM (a++[b]) 3<=a.length
 .have e:7<=a.length:=by omega
  rw[lq (by omega),rr (by omega)]at d;rw[uA e]at g;rw[lq (by omega),nH (by omega)]at j;unfold uN at c;rw[cD (by omega),cD g,cD (by omega),cD j]at c;cases c
 .omega
theorem ym (c:UInt8):Go.Lib.indexByte [] c= -1:=rfl
theorem Kc (c:vO a=none)(h:vO (a++[b])=some t):Bb a.length b t:=by
 unfold vO at c;split at c
 .rename_i g;obtain⟨n,u,_⟩:=jh (a.take 61) ([b].take (61-a.length)) 10 g;have o:(a++[b]).take 61=a.take 61++[b].take (61-a.length):=List.take_append;unfold vO at h;rw[o,n,cN g]at h;generalize (Go.Lib.indexByte (a.take 61) 10).toNat=e at*;have v:e<a.length:=by grind
  unfold ph at c h;rw[jn (by omega)]at h;split at c
  .rename_i d p;rw[p]at h;simp only at h;unfold sE at c h;split at c
   .cases c
   rename_i l;rw[cD l]at h;split at c
   .split at h
    .cases h
    .rename_i f;rw[cI]at f;simp only[dc,fk]at f;have q:e+1+d=a.length:=by omega
     have k:(a++[b]).getD (e+1+d) 0=b:=by simp_all
     rw[k]at h;split at h
     .rename_i i;cases h;exact .inr (.inr ⟨rfl,rfl,.inr ⟨q,i⟩⟩)
     .cases h;exact .inr (.inl ⟨rfl,rfl,by simp_all⟩)
   .split at c<;>cases c
  .split at c<;>cases c
 .rename_i g;split at c
  .cases c
  .have r:a.take 61=a:=dt (by omega);have s:(a++[b]).take 61=a++[b]:=dt (by simp;omega);rw[r]at g;unfold vO at h;rw[s,oN a [b] 10 g]at h;by_cases k:b=10
   .subst k;have m:Go.Lib.indexByte [10] 10=0:=by decide
    rw[m]at h;rw[show(if(0:Int)<=0 then(a.length:Int)+0 else-1)=(a.length:Int)by simp,cN (by omega)]at h;have w:((a.length:Int)).toNat=a.length:=by omega
    unfold ph at h;split at h
    .unfold sE at h;split at h
     .cases h;exact .inr (.inl ⟨rfl,rfl,rfl⟩)
     .rw[cN (by simp)]at h;cases h
    .split at h
     .cases h;exact .inr (.inl ⟨rfl,rfl,rfl⟩)
     .cases h;exact .inr (.inl ⟨rfl,rfl,rfl⟩)
   .have m:Go.Lib.indexByte [b] 10= -1:=by
     rw[ve,ym];simp[k]
    rw[m]at h;rw[show(if(0:Int)<= -1 then(a.length:Int)+ -1 else-1)= -1 by simp,cD (by omega)]at h;split at h
    .rename_i j;rw[cI]at j;simp only[dc,fk]at j;cases h;exact .inr (.inr ⟨rfl,rfl,.inl (by grind)⟩)
    .cases h
theorem yO (c:fw d a=none)(h:fw d (a++[b])=some t):Bb a.length b t:=by
 unfold fw at c h;split at h
 .rename_i e;rw[cN e]at c;exact Kc c h
 .rename_i e;rw[cD e]at c;split at h
  .rename_i f;rw[cN f]at c;exact JV c h
  .rename_i f;rw[cD f]at c;exact Kf c h
theorem EX (h:b≠10)(l:List UInt8):iH (b::l)=iH l:=by
 have e:(iH [b]).2=true:=by
  unfold iH;rw[ve,ym];simp[h]
 have:=Ij [b] l;rw[cN e]at this;exact this
def FN (t:iC)(rest:List UInt8):St:=jL ⟨[],t.skip,t.c.fatal⟩ rest
theorem QM {s:St}(e:s.ok)(j:n<s.held.length)(k:fw d (s.held.take n)=none)(h:fw d (s.held.take (n+1))=some t):fw d s.held=some t/\fm s t=FN t (s.held.drop (n+1)):=by
 have l:s.held.take (n+1)++s.held.drop (n+1)=s.held:=ij _ _;have f:fw d s.held=some t:=by
  have:=(rZ (s.held.drop (n+1)) h).1;rwa [l]at this
 refine⟨f,?_⟩;obtain⟨g,m⟩:=live e f;have o:s.held.take (n+1)=s.held.take n++[s.held[n]]:=by simp_all
 have p:(s.held.take n).length=n:=by simp;omega
 rw[o]at h;have i:=yO k h;rw[p]at i;unfold FN fm jL;rcases i with⟨b,c⟩|⟨b,c,a⟩|⟨b,c,a⟩
 .rw[cN b,b,c];rfl
 .rw[b,c,a,g,m];rfl
 .rw[b,c,g];simp only[fX,jG,pS,fI]
  rcases a with a|⟨a,q⟩
  .rw[a]
  .rw[a,gX j,EX q]
variable {s:ByteArray}{k:Nat}
theorem nb (h:k<s.size):s.data.toList.getD k 0=s[k]:=by
 rw[List.getD,cp (by simp_all)];rfl
theorem jF (h:k<s.size):ep s.data.toList k=s[k].toNat:=by
 show(s.data.toList.getD k 0).toNat=_;rw[nb h]
theorem vK {b c:UInt8}(h:¬b=c):((b.toNat:Int)==(c.toNat:Int))=false:=by
 rw[dW];intro e;apply h;apply nv.1;omega
def fF (a:ByteArray)(b:Bool):Value:= .agg #[.int .i64 4,.slice none 0 0,.string ⟨#[]⟩,.string a,.bool b,.int .i64 0]
theorem gH (a:ByteArray)(b:Bool)(w:World):Calls prog 182 #[.string a,.bool b] w fun e w'=>e= .returned (fF a b)/\Below w.heap.size w w':=by
 go_wp2;refine cE (v:= .agg #[.int .i64 4,.slice none 0 0,.string ⟨#[]⟩,.string a,.bool b,.int .i64 0]) (by simp[results,results182,go_sem]) rfl ⟨rfl,?_⟩;repeat(first|with_reducible exact ct _ _|with_reducible refine dV ?_|with_reducible refine dU ?_ (by try omega) _|with_reducible refine dJ ?_ (by try omega) _)
theorem MZ (h:k<s.size)(a:s[k]=10)(b:¬0<=Go.Lib.indexByte (s.data.toList.take k) 10):Go.Lib.indexByte s.data.toList 10=(k:Int):=by
 have c:k<s.data.toList.length:=by simp_all
 have e:s.data.toList=s.data.toList.take k++10::s.data.toList.drop (k+1):=by
  have d:s.data.toList.drop k=10::s.data.toList.drop (k+1):=by
   rw[gX c];congr 1
  rw[<-d,ij]
 have f:(s.data.toList.take k).length=k:=by grind
 rw[e,oN _ _ _ b,f];have g:Go.Lib.indexByte (10::s.data.toList.drop (k+1)) 10=0:=by rw[ve];simp
 rw[g];simp
theorem RZ (h:k<s.size)(a:¬s[k]=10)(b:¬0<=Go.Lib.indexByte (s.data.toList.take k) 10):¬0<=Go.Lib.indexByte (s.data.toList.take (k+1)) 10:=by
 rw[kh s k h,oN _ _ _ b];have c:Go.Lib.indexByte [s[k]] 10= -1:=by rw[ve,ym];simp[a]
 rw[c];simp
theorem uG (s:ByteArray)(w:World)(g:s.size<=maxLen):Calls prog 181 #[.string s] w fun e w'=>e= .returned (.int .i64 (Go.Lib.indexByte s.data.toList 10))/\w'=w:=by
 unfold maxLen at g;go_wp2;go_loop [3] (fun i=>∃k:Nat,k<=s.size/\i= .int .i64 k/\Hid (¬0<=Go.Lib.indexByte (s.data.toList.take k) 10)) (fun i=>s.size-(intOf i).toNat)
 case atStart=>exact⟨0,cG _,rfl,(by show¬0<=_;rw[jT,ym];decide)⟩
 case round=>
  obtain⟨k,n,rfl,a⟩:=hrel;by_cases c:k<s.size
  .by_cases b:s[k]=10
   .have d:=cb (MZ c b a.out);go_wp2;go_ret;exact⟨pY d.out.symm,rfl⟩
   .have j:=cb (RZ c b a.out);have l:=vK b;have m:((s[k].toNat:Int)==10)=false:=l;go_wp2;go_round
    case rel=>exact⟨k+1,by omega,by go_num,j⟩
    case measure=>simp[intOf];omega
  .have f:k=s.size:=by omega
   subst f;have d:Hid (Go.Lib.indexByte s.data.toList 10= -1):=by
    have h:=a.out;rw[dt (by simp)]at h;have:=Go.Lib.indexByte_ge s.data.toList 10;show _=_;omega
   go_wp2;go_ret;exact⟨pY d.out.symm,rfl⟩
def Nk (r:Option Nat):Int:=match r with|none=> -1|some n=>n
theorem Om (a:s.size=1)(h:0<s.size)(b:s[0]=48):s=⟨#[48]⟩:=by
 obtain⟨d⟩:=s;have:d.size=1:=a;have e:d=#[48]:=by
  apply Array.ext
  .simpa using this
  .intro i c f;have:i=0:=by omega
   subst this;exact b
 rw[e]
theorem vD (s:ByteArray)(w:World)(H:s.size<=maxLen):Calls prog 184 #[.string s] w fun e w'=>e= .returned (.int .i64 (Nk (om s)))/\w'=w:=by
 unfold maxLen at H;have g:Hid (om s=if s.size<1\/3<s.size\/(1<s.size/\s.data.toList.getD 0 0=48)then none else if s.data.toList.all PH then some (jd s.data.toList)else none):=rfl;generalize om s=R at*;by_cases a:s.size<1
 .have b:R=none:=by rw[g.out];simp[a]
  subst b;have o:s=⟨#[]⟩:=by
   obtain⟨d⟩:=s;have:d.size=0:=by have a:d.size<1:=a;omega
   rw[oH this]
  subst o;clear a;go_wp2;go_ret;exact⟨rfl,rfl⟩
 have I:(s.toList== [])=false:=by
  have:=JO (s:=s) [] (by intro e;rw[e]at a;exact a (by decide));exact this
 by_cases B:3<s.size
 .have b:R=none:=by rw[g.out];simp[B]
  subst b;have p:(3:Int)<s.size:=by omega
  go_wp2;go_ret;exact⟨rfl,rfl⟩
 have C:0<s.size:=by omega
 have o:s.data.toList.getD 0 0=s[0]:=nb C;have p:¬(3:Int)<s.size:=by omega
 by_cases j:1<s.size/\s[0]=48
 .have b:R=none:=by rw[g.out,cN];exact .inr (.inr ⟨j.1,o.trans j.2⟩)
  subst b;obtain⟨n,J⟩:=j;have K:=JO (s:=s) [48] (by intro e;rw[e]at n;exact absurd n (by decide));go_wp2;go_ret;exact⟨rfl,rfl⟩
 have q:Hid (R=if s.data.toList.all PH then some (jd s.data.toList)else none):=by
  show _=_;rw[g.out,cD];rw[o];rintro (h|h|h)
  .exact a h
  .exact B h
  .exact j h
 clear g;have L:Hid (∀l:List UInt8,l.all PH=true->jd l<10 ^ l.length):=tL;by_cases r:s[0]=48;case' pos=>
  have E:s=⟨#[48]⟩:=Om (by have:¬1<s.size:=fun M=>j ⟨M,r⟩;omega) C r
  have N:(s.toList== [48])=true:=by rw[E,jC];rfl
  clear E
 case' neg=>
  have N:((s[0].toNat:Int)==48)=false:=vK r
 all_goals
  go_wp2
  go_loop [3,4] (fun m i=>∃k:Nat,k<=s.size/\i= .int .i64 k/\m= .int .i64 (jd (s.data.toList.take k))/\Hid ((s.data.toList.take k).all PH=true)) (fun _ i=>s.size-(intOf i).toNat)
  case atStart=>exact⟨0,cG _,rfl,rfl,by show _=_;simp⟩
  case round=>
   obtain⟨k,S,rfl,rfl,t⟩:=hrel;have O:jd (s.data.toList.take k)<1000:=cH (L.out _ t.out) (by
    have:(s.data.toList.take k).length<=3:=by simp;omega
    exact mg (n:=10) (by decide) this)
   by_cases c:k<s.size
   .cases f:PH s[k]with
    |true=>
     have u:=f;simp only[PH,cO,cX]at u;obtain⟨v,x⟩:=u;have P:Hid (jd (s.data.toList.take (k+1))=jd (s.data.toList.take k)*10+(s[k].toNat-48)):=by show _=_;rw[kh s k c,sM]
     have y:Hid ((s.data.toList.take (k+1)).all PH=true):=by show _=_;rw[kh s k c];simp[t.out,f]
     generalize jd (s.data.toList.take k)=D at*;clear f;go_wp2;go_round
     case rel=>exact⟨k+1,by omega,by go_num,by rw[P.out];go_num,y⟩
     case measure=>simp[intOf];omega
    |false=>
     have b:R=none:=by rw[q.out,vR c f];rfl
     subst b;have u:¬(48<=(s[k].toNat:Int)/\(s[k].toNat:Int)<=57):=by
      intro h;simp[PH,h.1,h.2]at f
     clear f;by_cases v:(s[k].toNat:Int)<48
     .go_wp2;go_ret;exact⟨rfl,rfl⟩
     .have x:(57:Int)<s[k].toNat:=by omega
      go_wp2;go_ret;exact⟨rfl,rfl⟩
   .have z:k=s.size:=by omega
    subst z;have Q:s.data.toList.take s.size=s.data.toList:=dt (by simp);have A:Hid (R=some (jd (s.data.toList.take s.size))):=by show _=_;have F:=t.out;rw[Q]at F⊢;rw[q.out,cN F]
    clear q;generalize jd (s.data.toList.take s.size)=D at*;go_wp2;go_ret;exact⟨by rw[A.out];rfl,rfl⟩
def yF (r:Nat×WS):Int×Int:=if r.2.fG then(0,-2)else if r.2.short then(0,-1)else(r.1,r.2.pos)
def Lr (c d:Nat)(b:UInt8)(n:Nat)(a:Bool):Prop:=PH b=false\/d<n*10+(b.toNat-48)\/(a=true/\b.toNat-48<c)\/(a=false/\n=0)
theorem GB {c d q n:Nat}{a:Bool}(h:q<s.size):(a=false->s[q]=10->eJ s.data.toList c d (s.size-q) q n a=(n,⟨q+1,false,false⟩))/\(¬(a=false/\s[q]=10)->Lr c d s[q] n a->eJ s.data.toList c d (s.size-q) q n a=(0,⟨q,true,false⟩))/\(¬(a=false/\s[q]=10)->¬Lr c d s[q] n a->eJ s.data.toList c d (s.size-q) q n a=eJ s.data.toList c d (s.size-(q+1)) (q+1) (n*10+(s[q].toNat-48)) false):=by
 obtain⟨f,k⟩:∃f,s.size-q=f+1:=⟨s.size-q-1,by omega⟩
 have g:s.size-(q+1)=f:=by omega
 rw[k,g];have i:=nb h;have j:=jF h;refine⟨fun e b=>?_,fun e b=>?_,fun e b=>?_⟩
 .unfold eJ;rw[i,cN ⟨e,b⟩]
 .unfold eJ;unfold Lr at b;rw[i,j,cD e,cN b]
 .conv=>lhs;unfold eJ
  unfold Lr at b;rw[i,j,cD e,cD b]
theorem uk (s:ByteArray)(p i f:Nat)(w:World)(S:s.size<=maxLen)(T:p<=s.size)(U:i<=1)(V:f<=40):Calls prog 185 #[.string s,.int .i64 (p:Int),.int .i64 (i:Int),.int .i64 (f:Int)] w fun e w'=>e= .returned (.tuple #[.int .i64 (yF (eJ s.data.toList i f (s.size-p) p 0 true)).1,.int .i64 (yF (eJ s.data.toList i f (s.size-p) p 0 true)).2])/\w'=w:=by
 unfold maxLen at S;have C:Hid (eJ s.data.toList i f (s.size-p) p 0 true=eJ s.data.toList i f (s.size-p) p 0 true):=(show _=_ from rfl)
 generalize z:eJ s.data.toList i f (s.size-p) p 0 true=R at*;have u:Hid (eJ s.data.toList i f (s.size-p) p 0 true=R):=z;clear C z;go_wp2;go_loop [1,10,11] (fun a n d=>∃(q m k:Nat),a= .int .i64 q/\n= .int .i64 m/\d= .int .i64 k/\q<=s.size/\m<=40/\k<=q/\Hid (k=0->m=0)/\Hid (eJ s.data.toList i f (s.size-q) q m (decide (k=0))=R)) (fun a _ _=>s.size-(intOf a).toNat)
 case atStart=>exact⟨p,0,0,rfl,rfl,rfl,T,by omega,by omega,fun _=>rfl,u⟩
 case round=>
  obtain⟨q,m,k,rfl,rfl,rfl,Z,hm,W,r,c⟩:=hrel;by_cases D:q<s.size
  .obtain⟨M,N,O⟩:=GB (c:=i) (d:=f) (n:=m) (a:=decide (k=0)) D;have g:=cb (cd M (cd N O));clear M N O;have E:s[q].toNat<256:=eX _;by_cases v:s[q]=10
   .by_cases j:k=0
    ·
     have l:R=(0,⟨q,true,false⟩):=by
      rw[<-c.out];exact g.out.2.1 (by rintro ⟨h,_⟩;simp[j]at h) (.inl (by rw[v];decide))
     subst l
     subst j
     clear g c r u
     go_wp2
     go_ret2
     exact⟨rfl,rfl⟩
    .have l:R=(m,⟨q+1,false,false⟩):=by
      rw[<-c.out];exact g.out.1 (by simp[j]) v
     subst l;have F:(0:Int)<k:=by omega
     clear g c r u;go_wp2;go_ret2;exact⟨by simp[yF],rfl⟩
   .have P:((s[q].toNat:Int)==10)=false:=vK v;have b:¬(decide (k=0)=false/\s[q]=10):=fun h=>v h.2
    cases o:PH s[q]with
    |false=>
     have l:R=(0,⟨q,true,false⟩):=by
      rw[<-c.out];exact g.out.2.1 b (.inl o)
     subst l;have X:¬(48<=(s[q].toNat:Int)/\(s[q].toNat:Int)<=57):=by
      intro h;simp[PH,h.1,h.2]at o
     clear g c r u o b;by_cases H:(s[q].toNat:Int)<48
     .go_wp2;all_goals(go_ret2;exact⟨rfl,rfl⟩)
     .have I:(57:Int)<s[q].toNat:=by omega
      go_wp2;all_goals(go_ret2;exact⟨rfl,rfl⟩)
    |true=>
     have A:=o;simp only[PH,cO,cX]at A;obtain⟨H,I⟩:=A;have g1:¬(s[q].toNat:Int)<48:=by omega
     have g2:¬(57:Int)<s[q].toNat:=by omega
     have wx:IntKind.i64.wrap (((s[q].toNat:Int)-48))=(s[q].toNat:Int)-48:=eM _ (by omega) (by omega);by_cases j:k=0
     .have x:m=0:=r.out j;subst x;subst j;by_cases y:f<s[q].toNat-48
      .have l:R=(0,⟨q,true,false⟩):=by
        rw[<-c.out];exact g.out.2.1 b (.inr (.inl (by omega)))
       subst l;have J:(f:Int)<(s[q].toNat:Int)-48:=by omega
       clear g c r u o b;go_wp2;all_goals(go_ret2;exact⟨rfl,rfl⟩)
      .have J:¬(f:Int)<(s[q].toNat:Int)-48:=by omega
       by_cases B:s[q].toNat-48<i
       .have l:R=(0,⟨q,true,false⟩):=by
         rw[<-c.out];exact g.out.2.1 b (.inr (.inr (.inl ⟨rfl,B⟩)))
        subst l;have Q:(s[q].toNat:Int)-48<(i:Int):=by omega
        clear g c r u o b;go_wp2;all_goals(go_ret2;exact⟨rfl,rfl⟩)
       .have Q:¬(s[q].toNat:Int)-48<(i:Int):=by omega
        have K:Hid (eJ s.data.toList i f (s.size-(q+1)) (q+1) (s[q].toNat-48) (decide (1=0))=R):=by
         show _=_;rw[<-c.out,g.out.2.2 b (by
          rintro (h|h|h|h)
          .rw[o]at h;cases h
          .omega
          .omega
          .cases h.1)]
         simp
        clear g c r o b;go_wp2;all_goals go_round
        case rel=>exact⟨q+1,s[q].toNat-48,1,by go_num,by go_num,by go_num,by omega,by omega,by omega,fun h=>by omega,K⟩
        case measure=>simp[intOf];omega
     .have F:(0:Int)<k:=by omega
      have t:decide (k=0)=false:=by simp[j]
      by_cases x:m=0
      .have l:R=(0,⟨q,true,false⟩):=by
        rw[<-c.out];exact g.out.2.1 b (.inr (.inr (.inr ⟨t,x⟩)))
       subst l;subst x;clear g c r u o b t;go_wp2;all_goals(go_ret2;exact⟨rfl,rfl⟩)
      .have Y:((m:Int)==0)=false:=by rw[dW];omega
       by_cases y:f<m*10+(s[q].toNat-48)
       .have l:R=(0,⟨q,true,false⟩):=by
         rw[<-c.out];exact g.out.2.1 b (.inr (.inl y))
        subst l;have J:(f:Int)<10*(m:Int)+((s[q].toNat:Int)-48):=by omega
        clear g c r u o b t;go_wp2;all_goals(go_ret2;exact⟨rfl,rfl⟩)
       .have J:¬(f:Int)<10*(m:Int)+((s[q].toNat:Int)-48):=by omega
        have Q:¬10*(m:Int)+((s[q].toNat:Int)-48)<(i:Int):=by omega
        have K:Hid (eJ s.data.toList i f (s.size-(q+1)) (q+1) (m*10+(s[q].toNat-48)) (decide (k+1=0))=R):=by
         show _=_;rw[<-c.out,g.out.2.2 b (by
          rintro (h|h|h|h)
          .rw[o]at h;cases h
          .omega
          .rw[t]at h;cases h.1
          .omega)]
         simp
        clear g c r o b t;go_wp2;all_goals go_round
        case rel=>exact⟨q+1,m*10+(s[q].toNat-48),k+1,by go_num,by go_num,by go_num,by omega,by omega,by omega,fun h=>by omega,K⟩
        case measure=>simp[intOf];omega
  .have L:q=s.size:=by omega
   subst L;have l:R=(0,⟨s.size,false,true⟩):=by rw[<-c.out,rI];rfl
   subst l;clear c r u;go_wp2;go_ret2;exact⟨rfl,rfl⟩
variable {w w' W:World}{c T R:Nat}{a:List ByteArray}
theorem wR:∃i,prog.info? 9=some i/\i.zero=some (.string ⟨#[]⟩)/\i.size=1/\i.bytes=16:=by
 have h:(prog.info? 9).map (fun i=>(i.zero,i.size,i.bytes))=some (some (.string ⟨#[]⟩),1,16):=by kernel_rfl
 cases a:prog.info? 9 with
 |none=>rw[a]at h;cases h
 |some i=>
  rw[a]at h;simp only[gP,iJ,gi]at h;exact⟨i,rfl,h.1,h.2.1,h.2.2⟩
theorem ll {base g m:Nat}{b:List ByteArray}(l:b.length=m)(n:0<m)(h:w.ownsRow base 9 1 (.slice (some ⟨g,0,none⟩) m c) m (b.map Value.string)):gG w g c b/\base<=g:=by
 obtain⟨_,h|⟨o,d,a,e,f,j,p,q,r,s⟩⟩:=h
 .omega
 .cases e;refine⟨⟨a,j,by omega,by omega,fun i x k=>?_⟩,f⟩;have t:=(cq.1 k).1;have:(a.toList.take (m*1))[i]?=some (.string x):=by grind
  rw[dx (by omega)]at this;simpa using this
theorem uK (h:gG w T c a)(e:a.length<=140737488355328)(f:∀s∈a,s.size<=maxLen):og w (.slice (some ⟨T,0,none⟩) a.length c) a:=by
 obtain⟨Z,d,j,k,g⟩:=h;refine⟨.inl ⟨T,0,c,rfl,cA d,fun i s b=>?_⟩,e,f⟩;rw[eB,cn d i];exact g i s b
theorem kY (h:w.grownBy w' none):Below w.heap.size w w':=⟨h.os,h.tape,h.output,h.size,fun k a=>h.block k a (by simp)⟩
theorem gG.later (h:gG w T c a)(hb:Below w.heap.size w w'):gG w' T c a:=by
 obtain⟨Z,b,h⟩:=h;exact⟨Z,(hb.block T (cA b)).trans b,h⟩
theorem gG.lt (h:gG w T c a):T<w.heap.size:=by
 obtain⟨Z,b,h⟩:=h;exact cA b
theorem gG.other (h:gG w T c a)(hb:w'.heap[T]?=w.heap[T]?):gG w' T c a:=by
 obtain⟨Z,b,h⟩:=h;exact⟨Z,hb.trans b,h⟩
theorem oP {k:Nat}(h:k≠R)(a b c d e f g i:Value):((((((((w.setCell ⟨R,0,none⟩ a).setCell ⟨R,1,none⟩ b).setCell ⟨R,2,none⟩ c).setCell ⟨R,3,none⟩ d).setCell ⟨R,4,none⟩ e).setCell ⟨R,5,none⟩ f).setCell ⟨R,6,none⟩ g).setCell ⟨R,7,none⟩ i).heap[k]?=w.heap[k]?:=setOther h _ _ _ _ _ _ _ _
structure uw (W:World)(C:Nat)(k:Int)(kv:Value)(val:ByteArray):Prop where
 all:W.cell? ⟨C,0,none⟩=some (.int .i64 k)/\W.cell? ⟨C,1,none⟩=some kv/\W.cell? ⟨C,2,none⟩=some (.string val)/\W.cell? ⟨C,3,none⟩=some (.string ⟨#[]⟩)/\W.cell? ⟨C,4,none⟩=some (.bool false)/\W.cell? ⟨C,5,none⟩=some (.int .i64 0)
 free:∀i,W.frozen? ⟨C,i,none⟩=false
theorem gf {C:Nat}{k:Int}{b:Value}{a:ByteArray}(h:W.heap[C]?=some (.cells #[.int .i64 k,b,.string a,.string ⟨#[]⟩,.bool false,.int .i64 0] 36 (0,0))):uw W C k b a:=
 ⟨⟨cn h 0,cn h 1,cn h 2,cn h 3,cn h 4,cn h 5⟩,dN h⟩
theorem gk (h:W.heap[R]?=some (.cells #[.int .i64 0,.slice none 0 0,.string ⟨#[]⟩,.string ⟨#[]⟩,.bool false,.int .i64 0,.int .i64 0,.bool false] 255 (0,0))):Jm W R:=
 ⟨⟨cn h 0,cn h 1,cn h 2,cn h 3,cn h 4,cn h 5,cn h 6,cn h 7⟩,dN h⟩
theorem tH {a:World}{A B:Obj}(h:Below ((w.alloc A).alloc B).heap.size ((w.alloc A).alloc B) a):a.heap[w.heap.size]?=some A/\a.heap[w.heap.size+1]?=some B:=by
 refine⟨(h.block _ (by simp;omega)).trans ((cC _ _ _ (by simp)).trans (du w A)),(h.block _ (by simp)).trans ?_⟩;have:=du (w.alloc A) B;rw[cF]at this;exact this
theorem xv (T:Nat)(x:ByteArray)(d:List ByteArray)(m u:Nat)(w:World)(hm:d.length=m)(hT:gG w T 5 (x::d))(h1:1<=m)(h5:m<=4)(hs:∀s∈d,s.size<=maxLen)(hk:gj x≠2):Calls prog 256 #[.slice (some ⟨T,0,none⟩) (m+1) 5,.int .i64 (u:Int)] w fun e w'=>kG w w' (some (gE (x::d) u)) e/\Below w.heap.size w w':=by
 have hR:gE (x::d) u=if fp (gj x) d eY then⟨⟨gj x,d,eY,eY,false,0⟩,u,false⟩else⟨fj iG false,u,false⟩:=by
  unfold gE;simp only[mS,iN,List.drop_zero,hk,jG,false_and]
 have HR:=cb hR;clear hR;obtain⟨i9,hi,J,K,L⟩:=wR;have M:=cb (cd hi (cd J (cd K L)));clear hi J K L;have ac:=hT.lt;have HT:=cb hT;obtain⟨Z,hZ,ad,ae,t⟩:=hT;have c0:w.cell? ⟨T,0,none⟩=some (.string x):=by rw[cn hZ 0];exact t 0 x rfl
 have HC:Hid (∀j s,d[j]?=some s->w.cell? ⟨T,1+j,none⟩=some (.string s)):=fun j s h=>by
  rw[cn hZ (1+j),Nat.add_comm];exact t (j+1) s (by simpa using h)
 clear hZ ad ae t Z;have ah:(gj x==2)=false:=by simpa using hk
 have N:=cb hm;clear hm hk;generalize O:gj x=k at*;have HX:=cb (show∀W:World,Calls prog 224 #[.string x] W fun e w'=>e= .returned (.int .i64 k)/\w'=W from fun W=>by rw[<-O];exact lh x W);clear O;go_enter func256,ntmps256;have HN:Hid (∀(a b:Obj) (j:Nat) (v:Value),(d.map Value.string)[j]?=some v->((w.alloc a).alloc b).cell? ((⟨T,1,none⟩:Addr).add j)=some v):=fun a b j v P=>by
  have Q:(⟨T,1,none⟩:Addr).add j=⟨T,1+j,none⟩:=by unfold Addr.add;split<;>simp_all
  rw[cL]at P;cases hj:d[j]?with
  |none=>rw[hj]at P;cases P
  |some s=>
   rw[hj]at P;cases P;have hb:Below w.heap.size w ((w.alloc a).alloc b):=(cU).alloc (by simp) _;rw[Q];exact(hb.cell (p:=⟨T,1+j,none⟩) ac).trans (HC.out j s hj)
 have HO:Hid (∀u∈d.map Value.string,u.oneCell'=true):=fun u hu=>by
  obtain⟨s,_,rfl⟩:=dA.1 hu;rfl
 go_wp2_with (first
  |(go_at_call 224;refine(HX.out _).mono ?_;rintro e w' ⟨rfl,rfl⟩)
  |(at_builtin;refine wpList_append_lies _ rfl _ _ _ rfl w.heap.size 9 i9 (.string ⟨#[]⟩) 1 16 eO M.out.1 M.out.2.1 M.out.2.2.1 M.out.2.2.2 rfl (by omega) (.slice none 0 0) 0 [] rfl (dv _ _ _ _) ⟨T,1,none⟩ m 4 (d.map Value.string) rfl (by rw[dp,N.out];omega) (HN.out _ _) HO.out (by omega) (by unfold maxLen;omega) (by omega) (by simp;omega) _ rfl ?_;intro g c H q i R ag;have y:=kY i;have HF:=cb (cd q (cd y R));obtain⟨z,A⟩:=tH y;obtain⟨⟨r0,r1,r2,r3,r4,r5,r6,r7⟩,rf⟩:=gk z;obtain⟨⟨k0,k1,k2,k3,k4,k5⟩,kf⟩:=gf A;have B:=cb (cd z A);clear q i R y z A)
  |fail)
 have hg:g=w.heap.size+1+1:=by
  rcases HF.out.2.2 with h|h
  .cases h
  .simpa using h
 have S:gG H g c d:=by
  have:=HF.out.1;rw[eB,fI]at this;exact(ll N.out (by omega) this).1
 have l:=S.other (w':=H.setCell ⟨w.heap.size+1,1,none⟩ (.slice (some ⟨g,0,none⟩) m c)) (cz _ _ _ _ (by show g≠w.heap.size+1;omega));have hS:=uK l (by rw[N.out];omega) hs;rw[N.out]at hS;have r:Below w.heap.size w H:=(cU.alloc (by simp) _).trans (HF.out.2.1.mono (by simp;omega));have f:Below w.heap.size w (H.setCell ⟨w.heap.size+1,1,none⟩ (.slice (some ⟨g,0,none⟩) m c)):=r.setCell (p:=⟨w.heap.size+1,1,none⟩) (by show w.heap.size<=w.heap.size+1;omega) _;have n:(H.setCell ⟨w.heap.size+1,1,none⟩ (.slice (some ⟨g,0,none⟩) m c)).heap[w.heap.size]?=some (.cells #[.int .i64 0,.slice none 0 0,.string ⟨#[]⟩,.string ⟨#[]⟩,.bool false,.int .i64 0,.int .i64 0,.bool false] 255 (0,0)):=(cz _ ⟨w.heap.size+1,1,none⟩ _ _ (by show w.heap.size≠w.heap.size+1;omega)).trans B.out.1
 have o:=dh (i:=1) B.out.2 (.slice (some ⟨g,0,none⟩) m c);have C:=cb (mI k _ d ⟨#[]⟩ ⟨#[]⟩ false 0 _ hS (by decide));clear hS r0 r1 r2 r3 r4 r5 r6 r7 rf k0 k1 k2 k3 k4 k5 kf HC HN HX c0;clear HF B S r HT M HO;generalize af:H.setCell ⟨w.heap.size+1,1,none⟩ (.slice (some ⟨g,0,none⟩) m c)=w2 at*;clear af;unfold db at C;refine C.out.mono ?_;rintro e w3 ⟨rfl,p⟩;have D:=(p.block _ (cA n)).trans n;have E:=(p.block _ (cA o)).trans o;have U:=l.later p;have V:=f.trans (p.mono f.size);have I:=cb (cd D (cd E (cd U V)));obtain⟨⟨r0,r1,r2,r3,r4,r5,r6,r7⟩,rf⟩:=gk D;obtain⟨⟨k0,k1,k2,k3,k4,k5⟩,kf⟩:=gf E
 clear p D E U V n o l f C;have X:Hid (fp k d eY=fp k d ⟨#[]⟩):=(show _=_ from rfl)
 cases Y:fp k d ⟨#[]⟩with
 |false=>
  go_wp2_with fail
  go_at_call 218;refine(jP _ _ _).mono ?_;rintro e w4 ⟨rfl,F⟩;have aa:=(F.block _ (cA I.out.1)).trans I.out.1;have ab:=I.out.2.2.2.trans (F.mono I.out.2.2.2.size);obtain⟨⟨s0,s1,s2,s3,s4,s5,s6,s7⟩,sf⟩:=gk aa;have H4:=cb ab;clear F aa ab r0 r1 r2 r3 r4 r5 r6 r7 rf k0 k1 k2 k3 k4 k5 kf;unfold eK;go_wp2;refine cE (v:=eK 4 (.slice none 0 0) ⟨#[]⟩ iG false 0 u false) (by simp[results,results256,go_sem,eK,iG,s0,s1,s2,s3,s4,s5,s6,s7]) rfl ⟨?_,?_⟩
  .rw[HR.out,X.out,Y,cD (by simp)];exact⟨_,rfl,.inl ⟨rfl,rfl⟩⟩
  .exact qA H4.out (PC _) _ _ _ _ _ _ _ _
 |true=>
  go_wp2;refine cE (v:=eK k (.slice (some ⟨g,0,none⟩) m c) ⟨#[]⟩ ⟨#[]⟩ false 0 u false) (by simp[results,results256,go_sem,eK,r0,r1,r2,r3,r4,r5,r6,r7]) rfl ⟨?_,?_⟩
  .rw[HR.out,X.out,Y,cN rfl];refine⟨_,rfl,.inr ⟨g,c,by rw[N.out],by omega,I.out.2.2.1.other ?_⟩⟩;exact oP (by omega) _ _ _ _ _ _ _ _
  .exact qA I.out.2.2.2 (PC _) _ _ _ _ _ _ _ _
variable {s:ByteArray}{f k base e b n:Nat}{a:List ByteArray}{w:World}{v:Value}{d:List Value}
theorem Fi:∀(l:List UInt8),(∀b∈l,b≠32)->iA l=[l]:=by
 intro l;induction l with
 |nil=>intro _;rfl
 |cons b l a=>
  intro h;have d:=h b (by simp);rw[iA,cD d,a (fun c e=>h c (by simp[e]))]
theorem IU:∀(l m:List UInt8),(∀b∈l,b≠32)->iA (l++32::m)=l::iA m:=by
 intro l;induction l with
 |nil=>simp[iA]
 |cons b l a=>
  intro m h;have d:=h b (by simp);rw[ja,iA,cD d,a m (fun c e=>h c (by simp[e]))]
theorem Fh (l:List UInt8):iA l≠[]:=by
 cases l with
 |nil=>simp[iA]
 |cons b l=>
  rw[iA];split
  .simp
  .split<;>simp
theorem Dy (l:List UInt8):(iA l).length<=l.length+1:=by
 induction l with
 |nil=>simp[iA]
 |cons b l a=>
  rw[iA];split
  .simp;omega
  .split
   .rename_i h t e;rw[e]at a;simp at a⊢;omega
   .simp
theorem jo (s:ByteArray)(f k:Nat):s.extract f k=PJ ((s.data.toList.drop f).take (k-f)):=by
 unfold PJ;apply ByteArray.ext;rw[ByteArray.data_extract];apply Array.ext';rw[Array.toList_extract]
structure nu (bs:List UInt8)(f k:Nat)(acc:List ByteArray):Prop where
 le:f<=k
 many:acc.length<=f
 Pv:∀b∈(bs.drop f).take (k-f),b≠32
 all:eP bs=acc++eP (bs.drop f)
theorem nu.start (a:List UInt8):nu a 0 0 []:=⟨PC _,PC _,fun b c=>by simp at c,rfl⟩
theorem nu.blank (h:nu s.data.toList f k a)(j:k<s.size)(hb:s[k]=32):nu s.data.toList (k+1) (k+1) (a++[s.extract f k]):=by
 obtain⟨l,m,d,g⟩:=h;refine⟨PC _,by simp;omega,fun b hb=>by simp at hb,?_⟩;have c:k<s.data.toList.length:=by simp_all
 have e:s.data.toList.drop f=(s.data.toList.drop f).take (k-f)++32::s.data.toList.drop (k+1):=by
  conv=>lhs;rw[<-ij (k-f) (s.data.toList.drop f)]
  rw[qg,show f+(k-f)=k by omega,gX c];congr 2
 rw[g,jo];have i:eP (s.data.toList.drop f)=PJ ((s.data.toList.drop f).take (k-f))::eP (s.data.toList.drop (k+1)):=by
  unfold eP;conv=>lhs;rw[e,IU _ _ d]
  rfl
 rw[i];simp
theorem nu.other (h:nu s.data.toList f k a)(j:k<s.size)(hb:¬s[k]=32):nu s.data.toList f (k+1) a:=by
 obtain⟨l,e,g,i⟩:=h;refine⟨by omega,e,fun b c=>?_,i⟩;have d:k<s.data.toList.length:=by simp_all
 rw[show k+1-f=(k-f)+1 by omega,eV,cr]at c;rcases c with h|h
 .exact g b h
 .rw[iy,show f+(k-f)=k by omega,cp d]at h;simp at h;rw[h];exact hb
theorem nu.fin (h:nu s.data.toList f s.size a):eP s.data.toList=a++[s.extract f s.size]:=by
 obtain⟨d,g,b,c⟩:=h;have e:(s.data.toList.drop f).take (s.size-f)=s.data.toList.drop f:=dt (by simp);rw[e]at b;rw[c,jo,e];unfold eP;rw[Fi _ b];rfl
theorem tR (h:w.ownsRow base e b v n d):∃a n c,v= .slice a n c:=by
 obtain⟨_,⟨rfl,_⟩|⟨g,f,i,rfl,_⟩⟩:=h
 .exact⟨_,_,_,rfl⟩
 .exact⟨_,_,_,rfl⟩
theorem rS {w':World}(c:w.ownsRow base e b v n d)(a:w.grownBy w' v.ownBlock)(hb:base<=w.heap.size):Below base w w':=by
 refine⟨a.os,a.tape,a.output,a.size,fun k i=>a.block k (by omega) (fun e=>?_)⟩;obtain⟨_,⟨rfl,_⟩|⟨g,f,h,rfl,j,_⟩⟩:=c
 .cases e
 .have:k=g:=by simpa [Value.ownBlock]using e
  omega
theorem vF (s:ByteArray)(w:World)(Y:s.size<=1000000000000):Calls prog 183 #[.string s] w fun e w'=>∃g c,e= .returned (.slice (some ⟨g,0,none⟩) (eP s.data.toList).length c)/\w'.ownsRow w.heap.size 9 1 (.slice (some ⟨g,0,none⟩) (eP s.data.toList).length c) (eP s.data.toList).length ((eP s.data.toList).map Value.string)/\Below w.heap.size w w':=by
 obtain⟨I,J,t,u,v⟩:=wR;have n:=cb (cd J (cd t (cd u v)));clear J t u v;go_wp2;go_loopw [3,4,5] (fun l f i wr=>∃(k h:Nat) (a:List ByteArray) (x:Option Addr) (y z:Nat),l= .slice x y z/\f= .int .i64 h/\i= .int .i64 k/\k<=s.size/\h<=k/\a.length<=h/\Hid (nu s.data.toList h k a)/\Hid (wr.ownsRow w.heap.size 9 1 (.slice x y z) a.length (a.map Value.string)/\Below w.heap.size w wr)) (fun _ _ i _=>s.size-(intOf i).toNat)
 case atStart=>exact⟨0,0,[],none,0,0,rfl,rfl,rfl,cG _,PC _,PC _,nu.start _,dv _ _ _ _,ct _ _⟩
 case round=>
  obtain⟨k,h,a,x,y,z,rfl,rfl,rfl,Z,M,A,D,HO⟩:=hrel;have j:w.heap.size<=wr.heap.size:=HO.out.2.size;by_cases B:k<s.size
  .by_cases o:s[k]=32
   .have E:=cb (D.out.blank B o);have N:(h:Int)<=(k:Int):=by omega
    have i2:(k:Int)<=(s.size:Int):=by omega
    go_wp2_with (first
     |(at_builtin;refine mD _ rfl _ _ _ rfl w.heap.size 9 I (.string ⟨#[]⟩) 1 16 eO n.out.1 n.out.2.1 n.out.2.2.1 n.out.2.2.2 rfl (by omega) (.slice x y z) a.length (a.map Value.string) rfl (eA HO.out.1 _) ⟨wr.heap.size,0,none⟩ 1 1 [.string (s.extract h k)] rfl rfl (cell_one_new _ _ _) (by simp[Value.oneCell']) (by unfold maxLen;omega) (by omega) (by simp;omega) ?_;intro O P b d m p;obtain⟨Q,R,K,q⟩:=tR b;subst q;have C:=cb (cd b d);clear b d m p)
     |fail)
    go_roundw;case rel=>
     refine⟨k+1,k+1,a++[s.extract h k],_,_,_,rfl,by go_num,by go_num,by omega,PC _,by simp;omega,E,?_,?_⟩
     .have:=C.out.1;rw[cI,dF];exact this
     .have F:Below w.heap.size wr (wr.alloc (.cells #[.string (s.extract h k)] 9)):=(ct _ _).alloc j _;exact HO.out.2.trans (F.trans (rS (eA HO.out.1 _) C.out.2 (by simp;omega)))
    case measure=>simp[intOf];omega
   .have E:=cb (D.out.other B o);have S:((s[k].toNat:Int)==32)=false:=vK o;go_wp2;go_roundw;case rel=>exact⟨k+1,h,a,_,_,_,rfl,rfl,by go_num,by omega,by omega,A,E,HO⟩
    case measure=>simp[intOf];omega
  .have H:k=s.size:=by omega
   subst H;have L:=cb D.out.fin;have N:(h:Int)<=(s.size:Int):=by omega
   have T:Hid (a.length=a.length):=(show _=_ from rfl)
   go_wp2_with (first
    |(at_builtin;refine mD _ rfl _ _ _ rfl w.heap.size 9 I (.string ⟨#[]⟩) 1 16 eO n.out.1 n.out.2.1 n.out.2.2.1 n.out.2.2.2 rfl (by omega) (.slice x y z) a.length (a.map Value.string) rfl (eA HO.out.1 _) ⟨wr.heap.size,0,none⟩ 1 1 [.string (s.extract h s.size)] rfl rfl (cell_one_new _ _ _) (by simp[Value.oneCell']) (by unfold maxLen;omega) (by omega) (by simp;omega) ?_;intro O P b d m p;obtain⟨Q,R,K,q⟩:=tR b;subst q;have C:=cb (cd b d);clear b d m p)
    |fail)
   go_ret;have b:=C.out.1;have U:a.length+1=(eP s.data.toList).length:=by rw[L.out];simp
   have V:a.map Value.string++[.string (s.extract h s.size)]=(eP s.data.toList).map Value.string:=by rw[L.out];simp
   rw[U,V]at b;have r:=b;obtain⟨_,⟨_,h0⟩|⟨g,W,X,e,_⟩⟩:=r
   .omega
   .cases e;refine⟨g,K,rfl,b,?_⟩;have F:Below w.heap.size wr (wr.alloc (.cells #[.string (s.extract h s.size)] 9)):=(ct _ _).alloc j _;exact HO.out.2.trans (F.trans (rS (eA HO.out.1 _) C.out.2 (by simp;omega)))
variable {W:World}{e:Nat}{v:Value}{d:List ByteArray}{c a:List UInt8}{b:UInt8}
def gF (W:World)(e:Nat)(v:Value)(d:List ByteArray):Prop:=
 (v= .slice none 0 0/\d=[])\/∃b o c Z,v= .slice (some ⟨b,o,none⟩) d.length c/\e<=b/\W.heap[b]?=some (.cells Z 9 (0,0))/\(∀(i:Nat) (s:ByteArray),d[i]?=some s->Z[o+i]?=some (.string s))/\d.length<=c
theorem gF.other {f:World}{a:Nat}(h:gF W e v d)(m:a<=e)(k:∀b Z,W.heap[b]?=some (.cells Z 9 (0,0))->e<=b->f.heap[b]?=W.heap[b]?):gF f a v d:=by
 rcases h with h|⟨b,o,c,Z,i,j,g,l⟩
 .exact .inl h
 .exact .inr ⟨b,o,c,Z,i,by omega,(k b Z g j).trans g,l⟩
theorem gF.form (h:gF W e v d):∃a c,v= .slice a d.length c:=by
 rcases h with⟨h,rfl⟩|⟨b,o,c,Z,f,_⟩
 .exact⟨_,_,h⟩
 .exact⟨_,c,f⟩
theorem gF.strs (h:gF W e v d)(a:d.length<=140737488355328)(f:∀s∈d,s.size<=maxLen):og W v d:=by
 rcases h with⟨h,rfl⟩|⟨b,o,c,Z,j,m,g,k⟩
 .exact⟨.inr ⟨_,h,rfl⟩,a,f⟩
 .exact⟨.inl ⟨b,o,c,j,cA g,fun i s l=>(cn g _).trans (k.1 i s l)⟩,a,f⟩
def iW (c:iO)(a:Value):Value:= .agg #[.int .i64 c.kind,a,.string c.val,.string c.word,.bool c.fatal,.int .i64 c.id]
def jM:Value:= .agg #[.int .i64 0,.slice none 0 0,.string ⟨#[]⟩,.string ⟨#[]⟩,.bool false,.int .i64 0]
def mi (w w':World)(r:Option iC)(e:Ending):Prop:=
 match r with
 |none=>e= .returned (.tuple #[jM,.int .i64 0])
 |some t=>∃a,e= .returned (.tuple #[iW t.c a,.int .i64 (if t.skip then 2 else 1)])/\gF w' w.heap.size a t.c.keys
theorem Ke (hb:a=c++[b])(d:vO c=none):(¬0<=Go.Lib.indexByte a 10->vO a=if 60<a.length then some ⟨fj vk false,61,true⟩else none)/\(0<=Go.Lib.indexByte a 10->(Go.Lib.indexByte a 10).toNat<=60/\(Go.Lib.indexByte a 10).toNat<a.length/\vO a=ph a (Go.Lib.indexByte a 10).toNat):=by
 have f:a.take 61++a.drop 61=a:=ij _ _;refine⟨fun i=>?_,fun g=>?_⟩
 .have:=fun h=>i (by
   have:=(jh (a.take 61) (a.drop 61) 10 h).1;rw[f]at this;rw[this];exact h)
  unfold vO;rw[cD this]
 .obtain⟨_,j,_⟩:=jh a [] 10 g;by_cases h:0<=Go.Lib.indexByte (a.take 61) 10
  .obtain⟨e,m,_⟩:=jh (a.take 61) (a.drop 61) 10 h;rw[f]at e;rw[e];refine⟨by grind,by simp_all,?_⟩;unfold vO;rw[cN h]
  .have e:=oN (a.take 61) (a.drop 61) 10 h;have n:61<a.length:=by
    by_cases k:a.length<=61
    .rw[dt k]at h;exact absurd g h
    .omega
   have l:c.take 61=a.take 61:=by grind
   unfold vO at d;rw[l,cD h,cN (by grind)]at d;cases d
theorem Mc {e d:Nat}(hb:a=c++[b])(f:vO c=none)(s:(e:Int)=Go.Lib.indexByte a 10)(l:iZ (eP (a.take e))=some d)(g:¬40<d)(t:e+1+d<a.length):a.length=e+1+d+1/\a.getD (e+1+d) 0=b:=by
 have m:a.length=c.length+1:=by rw[hb];simp
 have n:0<=Go.Lib.indexByte a 10:=by omega
 obtain⟨f1,f2,f3⟩:=(Ke hb f).2 n;have o:(Go.Lib.indexByte a 10).toNat=e:=by omega
 have i:c.length=e+1+d:=by
  by_cases p:c.length<=e+1+d
  .omega
  .have q:Go.Lib.indexByte (c.take 61) 10=(e:Int):=by
    by_cases h:0<=Go.Lib.indexByte (c.take 61) 10
    .have:=(jh (c.take 61) (c.drop 61++[b]) 10 h).1;rw[<-fx,ij,<-hb]at this;omega
    .have:=oN (c.take 61) (c.drop 61++[b]) 10 h;rw[<-fx,ij,<-hb]at this;split at this
     .rw[fh]at this;by_cases r:61<=c.length
      .omega
      .omega
     .omega
   unfold vO at f;rw[cN (by omega),q]at f;have j:((e:Int)).toNat=e:=by omega
   rw[j]at f;unfold ph at f;have k:c.take e=a.take e:=by grind
   rw[k,l]at f;simp only at f;unfold sE at f;rw[cD g,cD (by omega)]at f;split at f<;>cases f
 rw[hb,<-i];simp[List.getD]
theorem tN (s:ByteArray):gj s=2↔s=⟨#[115,101,116]⟩:=by
 constructor
 .intro h;unfold gj at h;split at h
  .omega
  .split at h
   .rename_i b a;exact a
   .split at h<;>omega
 .rintro rfl;decide
def kB (s:ByteArray):Int:=if s=⟨#[103,101,116]⟩then 1 else if s=⟨#[100,101,108]⟩then 3 else 0
theorem Ay (s:ByteArray)(a:List ByteArray):(gj s=2\/fp (gj s) a eY=false)↔fp (kB s) a eY=false:=by
 unfold kB gj;by_cases b:s=⟨#[103,101,116]⟩
 .simp[b]
 .by_cases c:s=⟨#[115,101,116]⟩
  .subst c;simp[fp]
  .by_cases d:s=⟨#[100,101,108]⟩
   .simp[d]
   .simp[b,c,d]
theorem Hk {s:ByteArray}{d:List ByteArray}(h:¬(gj s=2\/fp (gj s) d eY=false)):gj s=kB s:=by
 unfold kB gj at*;by_cases a:s=⟨#[103,101,116]⟩
 .simp[a]
 .by_cases b:s=⟨#[115,101,116]⟩
  .exfalso;apply h;simp[b]
  .by_cases c:s=⟨#[100,101,108]⟩
   .simp[c]
   .simp[a,b,c]
variable {w W:World}{i:Int}{x v l:ByteArray}{R C g a:Nat}{c:iO}{j:Value}{d:List ByteArray}{f:Bool}
theorem fY {T a i:Nat}{b:List ByteArray}(h:gG w T a b)(c:b[i]?=some x):w.cell? ⟨T,i,none⟩=some (.string x):=by
 obtain⟨Z,d,_,_,e⟩:=h;rw[cn d i];exact e i x c
theorem tA (h:Below w.heap.size w W)(g:w.heap.size<=R)(a b c d e f:Value):Below w.heap.size w ((((((W.setCell ⟨R,0,none⟩ a).setCell ⟨R,1,none⟩ b).setCell ⟨R,2,none⟩ c).setCell ⟨R,3,none⟩ d).setCell ⟨R,4,none⟩ e).setCell ⟨R,5,none⟩ f):=
 ((((((h.setCell g _).setCell g _).setCell g _).setCell g _).setCell g _).setCell g _)
theorem jB {k:Nat}(g:k≠R)(a b c d e f:Value):((((((w.setCell ⟨R,0,none⟩ a).setCell ⟨R,1,none⟩ b).setCell ⟨R,2,none⟩ c).setCell ⟨R,3,none⟩ d).setCell ⟨R,4,none⟩ e).setCell ⟨R,5,none⟩ f).heap[k]?=w.heap[k]?:=by
 rw[cz _ _ _ _ g,cz _ _ _ _ g,cz _ _ _ _ g,cz _ _ _ _ g,cz _ _ _ _ g,cz _ _ _ _ g]
def ly:Obj:= .cells #[.int .i64 0,.slice none 0 0,.string ⟨#[]⟩,.string ⟨#[]⟩,.bool false,.int .i64 0] 36 (0,0)
theorem zY (h:Below (w.heap.size+1) (w.alloc (.cells #[.int .i64 0,.slice none 0 0,.string ⟨#[]⟩,.string ⟨#[]⟩,.bool false,.int .i64 0] 36)) W):uw W w.heap.size 0 (.slice none 0 0) ⟨#[]⟩/\w.heap.size<W.heap.size/\Below w.heap.size w W:=by
 have a:=(h.block _ (by omega)).trans (du w _);exact⟨gf a,cA a,cU.trans (h.mono (by omega))⟩
theorem zS (l:List UInt8):∀x∈iA l,x.length<=l.length:=by
 induction l with
 |nil=>simp[iA]
 |cons b l c=>
  intro x a;rw[iA]at a;split at a
  .rcases cQ.1 a with rfl|h
   .simp
   .have:=c x h;simp;omega
  .split at a
   .rename_i h t e;rcases cQ.1 a with rfl|h2
    .have:=c h (by rw[e];simp);simp;omega
    .have:=c x (by grind);simp;omega
   .simp at a;rw[a];simp
theorem zl (l:List UInt8):∀x∈eP l,x.size<=l.length:=by
 intro x a;obtain⟨y,b,rfl⟩:=dA.1 a;have:=zS l y b;show y.toArray.size<=_;simpa using this
theorem BS (s:ByteArray)(w:World)(q:s.size<=1000000000000)(r:¬0<=Go.Lib.indexByte s.data.toList 10):Calls prog 171 #[.string s] w fun e w'=>mi w w' (if 60<s.size then some ⟨fj vk false,61,true⟩else none) e/\Below w.heap.size w w':=by
 have c:=cb (fun W=>uG s W (by unfold maxLen;omega));generalize Go.Lib.indexByte s.data.toList 10=d at*;have f:d<0:=by omega
 by_cases g:60<s.size
 .have a:(60:Int)<s.size:=by omega
  go_enter mF,lD;go_wp2_with (refine(c.out _).mono ?_;rintro e h ⟨rfl,rfl⟩)
  refine(gH _ _ _).mono ?_;rintro e t ⟨rfl,b⟩;obtain⟨⟨⟨i,j,k,l,m,n⟩,u⟩,v,o⟩:=zY (by simpa using b);have p:=cb o;unfold fF;go_wp2;refine cE (v:= .tuple #[fF vk false,.int .i64 2]) (by simp[results,results171,go_sem,fF,vk,i,j,k,l,m,n]) rfl ⟨⟨.slice none 0 0,rfl,.inl ⟨rfl,rfl⟩⟩,?_⟩;exact tA p.out (PC _) _ _ _ _ _ _
 .have a:¬(60:Int)<s.size:=by omega
  go_enter mF,lD;go_wp2_with (refine(c.out _).mono ?_;rintro e h ⟨rfl,rfl⟩)
  refine cE (v:= .tuple #[jM,.int .i64 0]) (by simp[results,results171,go_sem,jM]) rfl ⟨rfl,?_⟩;repeat(first|with_reducible exact ct _ _|with_reducible refine dV ?_|with_reducible refine dU ?_ (by try omega) _|with_reducible refine dJ ?_ (by try omega) _)
structure PI (w W:World)(C:Nat)(c:iO)(kv:Value):Prop where
 at_:W.heap[C]?=some (.cells #[.int .i64 c.kind,kv,.string c.val,.string c.word,.bool c.fatal,.int .i64 c.id] 36 (0,0))
 res:W.heap[w.heap.size]?=some ly
 gt:w.heap.size<C
 keys:gF W w.heap.size kv c.keys
 below:Below w.heap.size w W
structure Lg (W:World)(C:Nat)(c:iO)(kv:Value):Prop where
 all:W.cell? ⟨C,0,none⟩=some (.int .i64 c.kind)/\W.cell? ⟨C,1,none⟩=some kv/\W.cell? ⟨C,2,none⟩=some (.string c.val)/\W.cell? ⟨C,3,none⟩=some (.string c.word)/\W.cell? ⟨C,4,none⟩=some (.bool c.fatal)/\W.cell? ⟨C,5,none⟩=some (.int .i64 c.id)
 free:∀i,W.frozen? ⟨C,i,none⟩=false
theorem PI.cells (h:PI w W C c j):Lg W C c j/\C<W.heap.size/\uw W w.heap.size 0 (.slice none 0 0) ⟨#[]⟩/\w.heap.size<W.heap.size:=
 ⟨⟨⟨cn h.at_ 0,cn h.at_ 1,cn h.at_ 2,cn h.at_ 3,cn h.at_ 4,cn h.at_ 5⟩,dN h.at_⟩,cA h.at_,gf h.res,cA h.res⟩
theorem PI.later {a:World}(h:PI w W C c j)(hb:Below W.heap.size W a):PI w a C c j:=
 ⟨(hb.block _ (cA h.at_)).trans h.at_,(hb.block _ (cA h.res)).trans h.res,h.gt,h.keys.other (PC _) (fun b Z d _=>hb.block _ (cA d)),h.below.trans (hb.mono h.below.size)⟩
theorem PI.fin (h:PI w W C c j)(a b d e f g:Value):Below w.heap.size w ((((((W.setCell ⟨w.heap.size,0,none⟩ a).setCell ⟨w.heap.size,1,none⟩ b).setCell ⟨w.heap.size,2,none⟩ d).setCell ⟨w.heap.size,3,none⟩ e).setCell ⟨w.heap.size,4,none⟩ f).setCell ⟨w.heap.size,5,none⟩ g)/\gF ((((((W.setCell ⟨w.heap.size,0,none⟩ a).setCell ⟨w.heap.size,1,none⟩ b).setCell ⟨w.heap.size,2,none⟩ d).setCell ⟨w.heap.size,3,none⟩ e).setCell ⟨w.heap.size,4,none⟩ f).setCell ⟨w.heap.size,5,none⟩ g) w.heap.size j c.keys:=
 ⟨tA h.below (PC _) _ _ _ _ _ _,h.keys.other (PC _) (fun b Z i _=>jB (fun e=>by subst e;rw[h.res]at i;cases i) _ _ _ _ _ _)⟩
theorem PI.kind {c:Int}(h:PI w W C ⟨c,d,v,l,f,i⟩ j)(k:Int):PI w (W.setCell ⟨C,0,none⟩ (.int .i64 k)) C ⟨k,d,v,l,f,i⟩ j:=
 ⟨(dh (i:=0) h.at_ _).trans rfl,(cz _ _ _ _ (by have:=h.gt;show _≠C;omega)).trans h.res,h.gt,h.keys.other (PC _) (fun b Z a _=>cz _ _ _ _ (fun e=>by
  rw[show b=C from e,h.at_]at a;cases a)),h.below.setCell (p:=⟨C,0,none⟩) (Nat.le_of_lt h.gt) _⟩
theorem PI.mk' {k:Int}(a:W.heap[w.heap.size]?=some ly)(e:gF W w.heap.size j d)(c:Below w.heap.size w W):PI w (W.alloc (.cells #[.int .i64 k,j,.string v,.string l,.bool f,.int .i64 i] 36)) W.heap.size ⟨k,d,v,l,f,i⟩ j:=
 ⟨du W _,(cC _ _ _ (cA a)).trans a,cA a,e.other (PC _) (fun b Z g _=>cC _ _ _ (cA g)),c.alloc c.size _⟩
theorem yt {c:Nat}{b:List ByteArray}(h:gG W g c (x::b))(d:a<=g):gF W a (.slice (some ⟨g,1,none⟩) b.length (c-1)) b:=by
 obtain⟨Z,e,_,f,j⟩:=h;exact .inr ⟨g,1,c-1,Z,rfl,d,e,fun i s k=>(by grind),by grind⟩
theorem yr {c:Nat}(h:gG W g c [x])(b:a<=g):gF W a (.slice (some ⟨g,0,none⟩) 0 0) []:=by
 obtain⟨Z,d,_,_,f⟩:=h;exact .inr ⟨g,0,0,Z,rfl,b,d,fun i s e=>(by simp at e),PC _⟩
theorem vh (x:ByteArray):(x=⟨#[103,101,116]⟩/\kB x=1)\/(x=⟨#[100,101,108]⟩/\kB x=3)\/(¬x=⟨#[103,101,116]⟩/\¬x=⟨#[100,101,108]⟩/\kB x=0):=by
 unfold kB;by_cases a:x=⟨#[103,101,116]⟩
 .exact .inl ⟨a,cN a⟩
 .by_cases b:x=⟨#[100,101,108]⟩
  .exact .inr (.inl ⟨b,by simp_all⟩)
  .exact .inr (.inr ⟨a,b,by simp_all⟩)
theorem BR (s:ByteArray)(e:Nat)(ws:List ByteArray)(w:World)(hs:s.size<=1000000000000)(he:Go.Lib.indexByte s.data.toList 10=(e:Int))(aJ:e<s.size)(X:ws=eP (s.data.toList.take e))(ak:iZ ws=none):Calls prog 171 #[.string s] w fun r w'=>mi w w' (if fp (kB (ws.getD 0 eY)) (ws.drop 1) eY=false then some ⟨fj fU false,e+1,false⟩else some ⟨⟨kB (ws.getD 0 eY),ws.drop 1,eY,eY,false,0⟩,e+1,false⟩) r/\Below w.heap.size w w':=by
 have HE:=cb (fun W=>uG s W (by unfold maxLen;omega));rw[he]at HE;have Y:(s.extract 0 e).data.toList=s.data.toList.take e:=by rw[jo];simp[PJ]
 have aw:(s.extract 0 e).size<=1000000000000:=by rw[gT];omega
 have ad:=cb (fun W=>vF (s.extract 0 e) W aw);rw[Y,<-X]at ad;have ax:ws.length<=1000000000001:=by
  rw[X];have:=Dy (s.data.toList.take e);unfold eP;rw[dp];rw[fh]at this;omega
 have H:∀x∈ws,x.size<=maxLen:=by
  intro x J;rw[X]at J;exact cP (zl _ x J) (by rw[fh];unfold maxLen;omega)
 obtain⟨x,b,ae⟩:∃x b,ws=x::b:=by
  cases hw:ws with
  |nil=>exfalso;rw[X]at hw;unfold eP at hw;simp at hw;exact Fh _ hw
  |cons x b=>exact⟨x,b,rfl⟩
 clear X he Y;subst ae;have e0:(x::b).getD 0 eY=x:=rfl;have e1:(x::b).drop 1=b:=rfl;rw[e0,e1];have i1:(0:Int)<=(e:Int):=by omega
 have i2:(e:Int)<=(s.size:Int):=by omega
 have ae:∀y∈b,y.size<=maxLen:=fun y hy=>H y (by simp[hy])
 have K:=cb ak;have al:=cb ae;have am:(x::b).length=b.length+1:=rfl;rw[am]at ad ax;have af:=cb H;obtain⟨M,aa⟩:∃R,(if fp (kB x) b eY=false then some ⟨fj fU false,e+1,false⟩else some ⟨⟨kB x,b,eY,eY,false,0⟩,e+1,false⟩:Option iC)=R:=⟨_,rfl⟩
 have a:=cb aa;rw[aa];clear H ae ak am e0 e1 aa;generalize hn:b.length=n at*;have HN:=cb hn;clear hn;go_enter mF,lD;go_wp2_with (first
  |(go_at_call 181;refine(HE.out _).mono ?_;rintro r w1 ⟨rfl,rfl⟩)
  |fail)
 go_at_call 183;refine(ad.out _).mono ?_;rintro r w2 ⟨g,c,rfl,ai,aj⟩;obtain⟨F,hg⟩:=ll (by show b.length+1=n+1;rw[HN.out]) (by omega) ai;obtain⟨ay,az,an⟩:=zY (by simpa using aj);have ao:w2.heap[w.heap.size]?=some ly:=(aj.block _ (by simp)).trans (du w _);have m:=cb (cd F (cd ao an));have I:=F.lt;have aG:n+1<=c:=by obtain⟨Z,_,_,h,_⟩:=F;have:(x::b).length<=c:=h;rw[dc,HN.out]at this;exact this
 have aK:w.heap.size<g:=by simp at hg;omega
 have c0:=fY F (i:=0) (x:=x) rfl;clear ai aj F ay ao an hg ad HE;have aL:¬(c:Int)=0:=by omega
 have n1:(0:Int)<(n:Int)+1:=by omega
 go_upto_region 8 with fail
 go_cut [32] (fun aA W=>aA= .bool (decide (n=2/\x=⟨#[115,101,116]⟩))/\gG W g c (x::b)/\W.heap[w.heap.size]?=some ly/\Below w.heap.size w W)
 case first=>
  by_cases ag:n=2
  .subst ag;by_cases J:x=⟨#[115,101,116]⟩
   .subst J;go_wp2_with fail
    go_meet
    case rel=>exact⟨by simp,m.out⟩
   .have aB:=JO (s:=x) [115,101,116] J;go_wp2_with fail
    go_meet
    case rel=>exact⟨by simp[J],m.out⟩
  .have aH:((n:Int)+1==3)=false:=by rw[dW];omega
   go_wp2_with fail
   go_meet
   case rel=>exact⟨by simp[ag],m.out⟩
 case rest=>
  clear c0 az I m;obtain⟨rfl,ap⟩:=hcut;have m:=cb ap;clear ap;go_upto_if 32 with fail
  go_cut [6] (fun s6 W=>s6= .int .i64 (-1)/\gG W g c (x::b)/\W.heap[w.heap.size]?=some ly/\Below w.heap.size w W)
  case first=>
   by_cases ab:n=2/\x=⟨#[115,101,116]⟩
   .have hd:decide (n=2/\x=⟨#[115,101,116]⟩)=true:=by simpa using ab
    rw[hd];obtain⟨ag,J⟩:=ab;subst ag;subst J;have aq:=HN.out;match b,aq,af,K,m with
    | [y,z],_,af,K,m=>
     have c1:=fY m.out.1 (i:=1) (x:=y) rfl;have c2:=fY m.out.1 (i:=2) (x:=z) rfl;have I:=m.out.1.lt;have hy:=af.out y (by simp);have hz:=af.out z (by simp);cases L:iX y with
     |false=>
      have ac:=cb (fun W=>mB y W hy);rw[L]at ac;clear hd L;go_wp2_with (first|(go_at_call 137;refine(ac.out _).mono ?_;rintro r w' ⟨rfl,hw⟩;subst hw)|fail)
      go_meet
      case rel=>exact⟨rfl,m.out⟩
     |true=>
      have ar:om z=none:=by
       have h:=K.out;unfold iZ at h;rw[cN ⟨rfl,(tN _).2 rfl,L⟩]at h;exact h
      have ac:=cb (fun W=>mB y W hy);have ah:=cb (fun W=>vD z W hz);rw[L]at ac;rw[ar]at ah;unfold Nk at ah;dsimp only at ah;clear hd L ar;go_wp2_with (first|(go_at_call 137;refine(ac.out _).mono ?_;rintro r w' ⟨rfl,hw⟩;subst hw)|(go_at_call 184;refine(ah.out _).mono ?_;rintro r w' ⟨rfl,hw⟩;subst hw)|fail)
      go_meet
      case rel=>exact⟨rfl,m.out⟩
   .have hd:decide (n=2/\x=⟨#[115,101,116]⟩)=false:=by simpa using ab
    rw[hd];go_wp2_with fail
    go_meet
    case rel=>exact⟨rfl,m.out⟩
  case rest=>
   clear m;obtain⟨rfl,F,hR,hB⟩:=hcut;have c0:=fY F (i:=0) (x:=x) rfl;have I:=F.lt;have m:=cb (cd F (cd hR hB));have l:=cA hR;clear F hR hB K;have m1:(1:Int)<=(n:Int)+1:=by omega
   have m3:(n:Int)+1<=(c:Int):=by omega
   go_upto_region 21 with fail
   go_cut [9] (fun s9 W=>∃C j,s9= .pointer (some ⟨C,0,none⟩)/\PI w W C ⟨0,b,eY,eY,false,0⟩ j/\gG W g c (x::b))
   case first=>
    by_cases hc:c=1
    .subst hc;have aC:n=0:=by omega
     subst aC;have aD:b=[]:=dw.1 HN.out;subst aD;go_wp2_with fail
     go_meet
     case rel=>exact⟨_,_,rfl,PI.mk' m.out.2.1 (yr m.out.1 (by omega)) m.out.2.2,m.out.1.other (cC _ _ _ I)⟩
    .have au:=cb (yt m.out.1 (a:=w.heap.size) (by omega));rw[HN.out]at au;go_wp2_with fail
     go_meet
     case rel=>exact⟨_,_,rfl,PI.mk' m.out.2.1 au.out m.out.2.2,m.out.1.other (cC _ _ _ I)⟩
   case rest=>
    clear c0 I m l;obtain⟨C,j,rfl,hC,F⟩:=hcut;have cx:=fY F (i:=0) (x:=x) rfl;have I:=F.lt;obtain⟨⟨⟨N,O,P,Q,S,T⟩,kf⟩,p,_,_⟩:=hC.cells;have HC:=cb (cd hC F);have aE:¬g=C:=fun e=>by
     obtain⟨Z,hZ,_⟩:=F;rw[e,hC.at_]at hZ;cases hZ
    have aM:¬C=g:=fun e=>aE e.symm
    clear hC F;have hS:=HC.out.1.keys.strs (by show b.length<=_;rw[HN.out];omega) al.out;obtain⟨ka,kc,av⟩:=HC.out.1.keys.form;simp only at av N O P Q S T;subst av;have U:Hid (∀W,gF W w.heap.size (.slice ka b.length kc) b->og W (.slice ka b.length kc) b):=fun W h=>h.strs (by rw[HN.out];omega) al.out
    clear hS;have l:=HC.out.1.gt;obtain⟨_,_,⟨⟨q,t,u,v,A,B⟩,V⟩,_⟩:=HC.out.1.cells;rcases vh x with⟨J,L⟩|⟨J,L⟩|⟨J,aF,L⟩
    .subst J;have o:=cb (HC.out.1.kind 1);rw[L]at a;have i:=cb (iz 1 _ b eY eY false 0 _ (U.out _ o.out.keys) (by decide));unfold db at i;clear HC U L;cases d:fp 1 b eY with
     |false=>
      rw[d]at i;have hr:M=some ⟨fj fU false,e+1,false⟩:=by rw[<-a.out,cN d]
      subst hr;clear a d;go_wp2_with (first|(go_at_call 139;refine i.out.mono ?_;rintro r w3 ⟨rfl,k⟩;have f:=cb (o.out.later k);clear k)|fail)
      go_at_call 182;refine(gH _ _ _).mono ?_;rintro r w4 ⟨rfl,D⟩;have E:=cb (f.out.later D);clear D f q t u v A B V l N O P Q S T kf p;obtain⟨_,_,⟨⟨q,t,u,v,A,B⟩,V⟩,l⟩:=E.out.cells;unfold fF;go_wp2;refine cE (v:= .tuple #[fF fU false,.int .i64 1]) (by simp[results,results171,go_sem,fF,fU,q,t,u,v,A,B]) rfl ⟨⟨.slice none 0 0,rfl,.inl ⟨rfl,rfl⟩⟩,(E.out.fin _ _ _ _ _ _).1⟩
     |true=>
      rw[d]at i;have hr:M=some ⟨⟨1,b,eY,eY,false,0⟩,e+1,false⟩:=by rw[<-a.out,cD (by rw[d];simp)]
      subst hr;clear a d;go_wp2_with (first|(go_at_call 139;refine i.out.mono ?_;rintro r w3 ⟨rfl,k⟩;have f:=cb (o.out.later k);clear k q t u v A B V l N O P Q S T kf p;obtain⟨⟨⟨N,O,P,Q,S,T⟩,kf⟩,p,⟨⟨q,t,u,v,A,B⟩,V⟩,l⟩:=f.out.cells;simp only at N O P Q S T)|fail)
      refine cE (v:= .tuple #[iW ⟨1,b,eY,eY,false,0⟩ (.slice ka b.length kc),.int .i64 1]) (by simp[results,results171,go_sem,iW,q,t,u,v,A,B]) rfl ⟨⟨_,rfl,(f.out.fin _ _ _ _ _ _).2⟩,(f.out.fin _ _ _ _ _ _).1⟩
    .subst J;have o:=cb (HC.out.1.kind 3);rw[L]at a;have i:=cb (iz 3 _ b eY eY false 0 _ (U.out _ o.out.keys) (by decide));unfold db at i;clear HC U L;cases d:fp 3 b eY with
     |false=>
      rw[d]at i;have hr:M=some ⟨fj fU false,e+1,false⟩:=by rw[<-a.out,cN d]
      subst hr;clear a d;go_wp2_with (first|(go_at_call 139;refine i.out.mono ?_;rintro r w3 ⟨rfl,k⟩;have f:=cb (o.out.later k);clear k)|fail)
      go_at_call 182;refine(gH _ _ _).mono ?_;rintro r w4 ⟨rfl,D⟩;have E:=cb (f.out.later D);clear D f q t u v A B V l N O P Q S T kf p;obtain⟨_,_,⟨⟨q,t,u,v,A,B⟩,V⟩,l⟩:=E.out.cells;unfold fF;go_wp2;refine cE (v:= .tuple #[fF fU false,.int .i64 1]) (by simp[results,results171,go_sem,fF,fU,q,t,u,v,A,B]) rfl ⟨⟨.slice none 0 0,rfl,.inl ⟨rfl,rfl⟩⟩,(E.out.fin _ _ _ _ _ _).1⟩
     |true=>
      rw[d]at i;have hr:M=some ⟨⟨3,b,eY,eY,false,0⟩,e+1,false⟩:=by rw[<-a.out,cD (by rw[d];simp)]
      subst hr;clear a d;go_wp2_with (first|(go_at_call 139;refine i.out.mono ?_;rintro r w3 ⟨rfl,k⟩;have f:=cb (o.out.later k);clear k q t u v A B V l N O P Q S T kf p;obtain⟨⟨⟨N,O,P,Q,S,T⟩,kf⟩,p,⟨⟨q,t,u,v,A,B⟩,V⟩,l⟩:=f.out.cells;simp only at N O P Q S T)|fail)
      refine cE (v:= .tuple #[iW ⟨3,b,eY,eY,false,0⟩ (.slice ka b.length kc),.int .i64 1]) (by simp[results,results171,go_sem,iW,q,t,u,v,A,B]) rfl ⟨⟨_,rfl,(f.out.fin _ _ _ _ _ _).2⟩,(f.out.fin _ _ _ _ _ _).1⟩
    .have aB:=JO (s:=x) [103,101,116] J;have aI:=JO (s:=x) [100,101,108] aF;have o:=cb HC.out.1;rw[L]at a;have i:=cb (iz 0 _ b eY eY false 0 _ (U.out _ o.out.keys) (by decide));unfold db at i;clear HC U L;cases d:fp 0 b eY with
     |false=>
      rw[d]at i;have hr:M=some ⟨fj fU false,e+1,false⟩:=by rw[<-a.out,cN d]
      subst hr;clear a d;go_wp2_with (first|(go_at_call 139;refine i.out.mono ?_;rintro r w3 ⟨rfl,k⟩;have f:=cb (o.out.later k);clear k)|fail)
      go_at_call 182;refine(gH _ _ _).mono ?_;rintro r w4 ⟨rfl,D⟩;have E:=cb (f.out.later D);clear D f q t u v A B V l N O P Q S T kf p;obtain⟨_,_,⟨⟨q,t,u,v,A,B⟩,V⟩,l⟩:=E.out.cells;unfold fF;go_wp2;refine cE (v:= .tuple #[fF fU false,.int .i64 1]) (by simp[results,results171,go_sem,fF,fU,q,t,u,v,A,B]) rfl ⟨⟨.slice none 0 0,rfl,.inl ⟨rfl,rfl⟩⟩,(E.out.fin _ _ _ _ _ _).1⟩
     |true=>
      rw[d]at i;have hr:M=some ⟨⟨0,b,eY,eY,false,0⟩,e+1,false⟩:=by rw[<-a.out,cD (by rw[d];simp)]
      subst hr;clear a d;go_wp2_with (first|(go_at_call 139;refine i.out.mono ?_;rintro r w3 ⟨rfl,k⟩;have f:=cb (o.out.later k);clear k q t u v A B V l N O P Q S T kf p;obtain⟨⟨⟨N,O,P,Q,S,T⟩,kf⟩,p,⟨⟨q,t,u,v,A,B⟩,V⟩,l⟩:=f.out.cells;simp only at N O P Q S T)|fail)
      refine cE (v:= .tuple #[iW ⟨0,b,eY,eY,false,0⟩ (.slice ka b.length kc),.int .i64 1]) (by simp[results,results171,go_sem,iW,q,t,u,v,A,B]) rfl ⟨⟨_,rfl,(f.out.fin _ _ _ _ _ _).2⟩,(f.out.fin _ _ _ _ _ _).1⟩
variable {s:ByteArray}
structure Lf (k:Int)(ss:List ByteArray)(val:ByteArray):Prop where
 kind:k=1\/k=2\/k=3
 xn:1<=ss.length
 yu:ss.length<=4
 one:k≠1->ss.length=1
 keys:∀s∈ss,iX s=true
 xi:val.size<=40
 Pj:k≠2->val=eY
 cmd:fp k ss val=true
theorem rO (h:s.toList.isEmpty=true):s=eY:=by
 have b:s.toList=[]:=by grind
 have c:s.data.toList=[]:=by rw[<-b];exact(jC s).symm
 have a:s.data=#[]:=by simp_all
 cases s;simp only at a;rw[a];rfl
theorem QR {k:Int}{d:List ByteArray}{f:ByteArray}(h:fp k d f=true):Lf k d f:=by
 have i:=h;have j:∀m:Int,gR d m=true->1<=d.length/\(d.length:Int)<=m/\∀s∈d,iX s=true:=by
  intro m l;simp only[gR,eF,cO,cX,jN]at l;exact⟨by omega,l.1.2,l.2⟩
 unfold fp at h;split at h
 .rename_i g;simp only[cO]at h;obtain⟨a,b,c⟩:=j _ h.1;have e:=rO h.2;subst e;exact⟨.inl g,a,by omega,fun n=>absurd g n,c,by decide,fun _=>rfl,i⟩
 .split at h
  .rename_i g o;simp only[cO,cX]at h;obtain⟨a,b,c⟩:=j _ h.1;exact⟨.inr (.inl o),a,by omega,fun _=>by omega,c,by omega,fun n=>absurd o n,i⟩
  .split at h
   .rename_i g o p;simp only[cO]at h;obtain⟨a,b,c⟩:=j _ h.1;have e:=rO h.2;subst e;exact⟨.inr (.inr p),a,by omega,fun _=>by omega,c,by decide,fun _=>rfl,i⟩
   .cases h
theorem yp (h:iX s=true):1<=s.size/\s.size<=8:=by
 simp only[iX,eF,cO,cX]at h;omega
theorem kQ (s:ByteArray):s.data.toList.length=s.size:=by simp
variable {a:List UInt8}{d b c N:Nat}
theorem Nr {c:List UInt8}{b:UInt8}(hb:a=c++[b])(d:uN c=none)(i:7<=a.length)(e:iR a=true)(j:7+ep a 2+dM a 3<=a.length):a.length=7+ep a 2+dM a 3:=by
 have f:a.length=c.length+1:=by rw[hb];simp
 by_cases g:7+ep a 2+dM a 3<=c.length
 .have k:ep a 2=ep c 2:=by rw[hb,lq (by omega)]
  have l:dM a 3=dM c 3:=by rw[hb,rr (by omega)]
  have h:iR c=true:=by rw[<-e,hb,uA (by omega)]
  unfold uN at d;rw[cD (by omega),h,cD (by simp),cD (by omega)]at d;split at d<;>cases d
 .omega
theorem Nq {b c:ByteArray}(g:iR a=true)(l:c.size=dM a 3):fp (ep a 1:Int) [b] c=iX b:=by
 unfold iR at g;simp only[cO,fA,cX]at g;have f:gR [b] 4=iX b:=by simp[gR,eF]
 have d:gR [b] 1=iX b:=by simp[gR,eF]
 have e:c.size=0->c.toList.isEmpty=true:=fun h=>by
  rw[jC];have:c.data.toList.length=0:=by simp_all
  simp[List.length_eq_zero_iff.1 this]
 unfold fp;by_cases i:ep a 1=1
 .rw[i,cN (by rfl),f,e (by omega),mV]
 .by_cases j:ep a 1=2
  .rw[j,cD (by decide),cN (by rfl),d];have:decide ((c.size:Int)<=40)=true:=by simp;omega
   rw[this,mV]
  .have k:ep a 1=3:=by omega
   rw[k,cD (by decide),cD (by decide),cN (by rfl),d,e (by omega),mV]
theorem Ev (f:ep a 0=d)(g:ep a 1=b)(h:ep a 2=c)(i:dM a 3=N)(e:iR a=false):¬d=1\/(d=1/\b<1)\/(d=1/\¬b<1/\3<b)\/(d=1/\¬b<1/\¬3<b/\c<1)\/(d=1/\¬b<1/\¬3<b/\¬c<1/\8<c)\/(d=1/\¬b<1/\¬3<b/\¬c<1/\¬8<c/\40<N)\/(d=1/\¬b<1/\¬3<b/\¬c<1/\¬8<c/\¬40<N/\¬b=2/\¬N=0):=by
 unfold iR at e;simp only[ig,me,eG]at e;omega
theorem Ew (f:ep a 0=d)(g:ep a 1=b)(h:ep a 2=c)(i:dM a 3=N)(e:iR a=true):d=1/\¬b<1/\¬3<b/\¬c<1/\¬8<c/\¬40<N/\(¬b=2->N=0):=by
 unfold iR at e;simp only[cO,fA,cX]at e;omega
theorem yW (s:ByteArray)(w:World)(b:s.size<7):Calls prog 172 #[.string s] w fun e w'=>mi w w' none e/\Below w.heap.size w w':=by
 have a:(s.size:Int)<7:=by omega
 go_wp2;refine cE (v:= .tuple #[jM,.int .i64 0]) (by simp[results,results172,go_sem,jM]) rfl ⟨rfl,?_⟩;repeat(first|with_reducible exact ct _ _|with_reducible refine dV ?_|with_reducible refine dU ?_ (by try omega) _|with_reducible refine dJ ?_ (by try omega) _)
theorem BQ (s:ByteArray)(w:World)(T:s.size<=1000000000000)(U:7<=s.size)(n:iR s.data.toList=false):Calls prog 172 #[.string s] w fun e w'=>mi w w' (some ⟨fj fU true,7,false⟩) e/\Below w.heap.size w w':=by
 have u:0<s.size:=by omega
 have v:1<s.size:=by omega
 have x:2<s.size:=by omega
 have y:3<s.size:=by omega
 have z:4<s.size:=by omega
 have V:(3:Int)<s.size:=by omega
 have X:(4:Int)<s.size:=by omega
 have A:¬(s.size:Int)<7:=by omega
 have o:dM s.data.toList 3=s[3].toNat+256*s[4].toNat:=by unfold dM;rw[jF y,jF z]
 have b:=Ev (jF u) (jF v) (jF x) o n;have Y:s[1].toNat<256:=eX _;have Z:s[2].toNat<256:=eX _;have b3:s[3].toNat<256:=eX _;have b4:s[4].toNat<256:=eX _;have w1:IntKind.i64.wrap (s[1].toNat:Int)=s[1].toNat:=eM _ (by omega) (by omega);have w3:IntKind.i64.wrap (s[3].toNat:Int)=s[3].toNat:=eM _ (by omega) (by omega);have w4:IntKind.i64.wrap (s[4].toNat:Int)=s[4].toNat:=eM _ (by omega) (by omega);have c:Hid (∀(W:World),Below (w.heap.size+1) (w.alloc (.cells #[.int .i64 0,.slice none 0 0,.string ⟨#[]⟩,.string ⟨#[]⟩,.bool false,.int .i64 0] 36)) W->uw W w.heap.size 0 (.slice none 0 0) ⟨#[]⟩/\w.heap.size<W.heap.size/\Below w.heap.size w W):=fun W h=>zY h
 clear o n;rcases b with h|⟨d,f⟩|⟨d,f,i⟩|⟨d,f,i,l⟩|⟨d,f,i,l,p⟩|⟨d,f,i,l,p,B⟩|⟨d,f,i,l,p,B,h8,h9⟩
 case' inl=>
  have C:((s[0].toNat:Int)==1)=false:=by rw[dW];omega
  have D:((s[0].toNat:Int) != 1)=true:=by simp only[bne,C,gK]
 case' inr.inl=>
  have g:(s[1].toNat:Int)<1:=by omega
 case' inr.inr.inl=>
  have g:¬(s[1].toNat:Int)<1:=by omega
  have j:(3:Int)<(s[1].toNat:Int):=by omega
 case' inr.inr.inr.inl=>
  have g:¬(s[1].toNat:Int)<1:=by omega
  have j:¬(3:Int)<(s[1].toNat:Int):=by omega
  have m:(s[2].toNat:Int)<1:=by omega
 case' inr.inr.inr.inr.inl=>
  have g:¬(s[1].toNat:Int)<1:=by omega
  have j:¬(3:Int)<(s[1].toNat:Int):=by omega
  have m:¬(s[2].toNat:Int)<1:=by omega
  have q:(8:Int)<(s[2].toNat:Int):=by omega
 case' inr.inr.inr.inr.inr.inl=>
  have g:¬(s[1].toNat:Int)<1:=by omega
  have j:¬(3:Int)<(s[1].toNat:Int):=by omega
  have m:¬(s[2].toNat:Int)<1:=by omega
  have q:¬(8:Int)<(s[2].toNat:Int):=by omega
  have E:(40:Int)<(s[3].toNat:Int)+(256:Int)*(s[4].toNat:Int):=by omega
 case' inr.inr.inr.inr.inr.inr=>
  have g:¬(s[1].toNat:Int)<1:=by omega
  have j:¬(3:Int)<(s[1].toNat:Int):=by omega
  have m:¬(s[2].toNat:Int)<1:=by omega
  have q:¬(8:Int)<(s[2].toNat:Int):=by omega
  have E:¬(40:Int)<(s[3].toNat:Int)+(256:Int)*(s[4].toNat:Int):=by omega
  have F:((s[1].toNat:Int)==2)=false:=by rw[dW];omega
  have H:((s[1].toNat:Int) != 2)=true:=by simp only[bne,F,gK]
  have I:((s[3].toNat:Int)+(256:Int)*(s[4].toNat:Int)==0)=false:=by rw[dW];omega
  have J:((s[3].toNat:Int)+(256:Int)*(s[4].toNat:Int) != 0)=true:=by simp only[bne,I,gK]
 all_goals
  go_enter func172,ntmps172
  go_wp2_with fail
  go_region
  go_wp2_with fail
  go_at_call 182
  refine(gH _ _ _).mono ?_
  rintro r K ⟨rfl,a⟩
  obtain⟨⟨⟨L,M,N,O,P,Q⟩,rf⟩,hz,t⟩:=c.out K ⟨a.os,a.tape,a.output,a.size,fun k R=>a.block k (by show k<(w.alloc _).heap.size;rw[cF];exact R)⟩
  have S:=cb t
  clear a t
  unfold fF
  go_wp2
  refine cE (v:= .tuple #[fF fU true,.int .i64 1]) (by simp[results,results172,go_sem,fF,fU,L,M,N,O,P,Q]) rfl ⟨⟨.slice none 0 0,rfl,.inl ⟨rfl,rfl⟩⟩,tA S.out (PC _) _ _ _ _ _ _⟩
end Go.Proofs.YtlonjggfnleolaaGreatDoor
