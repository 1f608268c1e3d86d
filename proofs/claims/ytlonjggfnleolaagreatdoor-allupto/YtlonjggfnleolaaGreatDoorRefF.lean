import Derived.Test.YtlonjggfnleolaaGreatDoorRefE
namespace Go.Proofs.YtlonjggfnleolaaGreatDoor
open Go.RowKit Go.Proofs.Tryz
set_option linter.unusedVariables false
variable {d:List UInt8}{s:WS}{a k p:Nat}{e:List ByteArray}
theorem PT {c:UInt8}(h:s.short=true)(a:s.fG=false):(dY d c s).short=true/\(dY d c s).fG=false:=by
 unfold dY;have:(s.look d.length).short=true:=by simp[WS.look,h]
 rw[cN (by grind)];exact⟨this,a⟩
theorem uU {b:Nat}(h:s.short=true)(c:s.fG=false):(fC d a b s).2.short=true/\(fC d a b s).2.fG=false:=by
 unfold fC;have:(s.look d.length).short=true:=by simp[WS.look,h]
 rw[cN (by grind)];exact⟨this,c⟩
theorem tF {n:Nat}(h:s.short=true)(a:s.fG=false):(ib d n s).2.short=true/\(ib d n s).2.fG=false:=by
 unfold ib;rw[cN (by rw[h];simp)];exact⟨h,a⟩
theorem EU (h:s.short=true)(a:s.fG=false):(mL d s).2.short=true/\(mL d s).2.fG=false:=by
 obtain⟨b,c⟩:=PT (d:=d) (c:=36) h a;obtain⟨e,f⟩:=uU (d:=d) (a:=0) (b:=40) b c;obtain⟨g,i⟩:=tF (d:=d) (n:=(fC d 0 40 (dY d 36 s)).1) e f;exact PT g i
theorem Qz:∀(k:Nat) (s:WS) (e:List ByteArray),s.short=true->s.fG=false->(fO d k s e).2.short=true/\(fO d k s e).2.fG=false:=by
 intro k;induction k with
 |zero=>intro s e h c;exact⟨h,c⟩
 |succ k f=>intro s e h c;obtain⟨a,b⟩:=EU (d:=d) h c;exact f _ _ a b
def qL (t:List ByteArray×WS):Option iC:=if t.2.fG then some ⟨fj fU true,t.2.pos+1,false⟩else if t.2.short then none else some (gE t.1 t.2.pos)
theorem pk (h:s.fG=true):∃u,qL (fO d k s e)=some ⟨fj fU true,u,false⟩:=by
 unfold qL;rw[cN (sg k s e h)];exact⟨_,rfl⟩
theorem pj (h:s.short=true)(c:s.fG=false):qL (fO d k s e)=none:=by
 obtain⟨a,b⟩:=Qz (d:=d) k s e h c;unfold qL;rw[cD (by rw[b];simp),cN a]
theorem Cs {b:Nat}(h:p<=d.length):fC d a b ⟨p,false,false⟩=eJ d a b (d.length-p) p 0 true:=by
 unfold fC;by_cases c:p=d.length
 .subst c;simp[WS.look,eJ]
 .simp[WS.look,c]
theorem wM {c:Nat}:∀(f p n:Nat) (b:Bool),n<=c->(eJ d a c f p n b).1<=c:=by
 intro f;induction f with
 |zero=>intro p n b _;exact cG _
 |succ f e=>
  intro p n b h;unfold eJ;split
  .exact h
  .split
   .exact cG _
   .exact e _ _ _ (by omega)
theorem Bp {i:Nat}:∀(f p n:Nat) (b:Bool),(b=false->a<=n)->(eJ d a i f p n b).2.fG=false->(eJ d a i f p n b).2.short=false->a<=(eJ d a i f p n b).1:=by
 intro f;induction f with
 |zero=>intro p n b _ _ c;cases c
 |succ f k=>
  intro p n b h e c;unfold eJ at e c⊢;split at e
  .rename_i g;rw[cN g];exact h g.1
  .rename_i g;rw[cD g]at c⊢;split at e
   .cases e
   .rename_i j;rw[cD j]at c⊢;refine k _ _ _ (fun _=>?_) e c;cases b with
    |true=>
     have:¬ep d p-48<a:=fun l=>j (.inr (.inr (.inl ⟨rfl,l⟩)))
     omega
    |false=>have:=h rfl;omega
theorem ND {s:ByteArray}(v:p<s.size)(w:s[p]=36):(∀(j:(eJ s.data.toList 0 40 (s.size-(p+1)) (p+1) 0 true).2.fG=true),∃u,qL (fO s.data.toList (k+1) ⟨p,false,false⟩ e)=some ⟨fj fU true,u,false⟩)/\(∀(j:(eJ s.data.toList 0 40 (s.size-(p+1)) (p+1) 0 true).2.fG=false) (o:(eJ s.data.toList 0 40 (s.size-(p+1)) (p+1) 0 true).2.short=true),qL (fO s.data.toList (k+1) ⟨p,false,false⟩ e)=none)/\(∀(n q:Nat),eJ s.data.toList 0 40 (s.size-(p+1)) (p+1) 0 true=(n,⟨q,false,false⟩)->(s.size<=q+n->qL (fO s.data.toList (k+1) ⟨p,false,false⟩ e)=none)/\(∀(h:q+n<s.size),¬s[q+n]=10->∃u,qL (fO s.data.toList (k+1) ⟨p,false,false⟩ e)=some ⟨fj fU true,u,false⟩)/\(∀(h:q+n<s.size),s[q+n]=10->fO s.data.toList (k+1) ⟨p,false,false⟩ e=fO s.data.toList k ⟨q+n+1,false,false⟩ (e++[s.extract q (q+n)]))):=by
 have r:=kQ s;have x:dY s.data.toList 36 ⟨p,false,false⟩=⟨p+1,false,false⟩:=by
  unfold dY;rw[cD (by simp[WS.look,r];omega),cN (by rw[nb v];exact w)]
 have y:fC s.data.toList 0 40 ⟨p+1,false,false⟩=eJ s.data.toList 0 40 (s.size-(p+1)) (p+1) 0 true:=by rw[Cs (by omega),r]
 have l:fO s.data.toList (k+1) ⟨p,false,false⟩ e=fO s.data.toList k (mL s.data.toList ⟨p,false,false⟩).2 (e++[(mL s.data.toList ⟨p,false,false⟩).1]):=rfl;have f:mL s.data.toList ⟨p,false,false⟩=((ib s.data.toList (eJ s.data.toList 0 40 (s.size-(p+1)) (p+1) 0 true).1 (eJ s.data.toList 0 40 (s.size-(p+1)) (p+1) 0 true).2).1,dY s.data.toList 10 (ib s.data.toList (eJ s.data.toList 0 40 (s.size-(p+1)) (p+1) 0 true).1 (eJ s.data.toList 0 40 (s.size-(p+1)) (p+1) 0 true).2).2):=by
  unfold mL;rw[x,y]
 generalize eJ s.data.toList 0 40 (s.size-(p+1)) (p+1) 0 true=C at*;refine⟨fun j=>?_,fun j o=>?_,fun n q z=>?_⟩
 .rw[l];exact pk (by rw[f];exact qQ (tG j))
 .rw[l];obtain⟨a,b⟩:=tF (d:=s.data.toList) (n:=C.1) o j;obtain⟨c,d⟩:=PT (d:=s.data.toList) (c:=10) a b;exact pj (by simp_all) (by simp_all)
 .subst z;refine⟨fun h=>?_,fun h g=>?_,fun h g=>?_⟩
  .rw[l];by_cases t:s.data.toList.length<q+n
   .have i:ib s.data.toList n ⟨q,false,false⟩=(eY,⟨q,false,true⟩):=by unfold ib;rw[cD (by simp),cN t]
    rw[i]at f;obtain⟨c,d⟩:=PT (d:=s.data.toList) (c:=10) (s:=⟨q,false,true⟩) rfl rfl;exact pj (by grind) (by simp_all)
   .have i:ib s.data.toList n ⟨q,false,false⟩=(bytesOf s.data.toList q n,⟨q+n,false,false⟩):=by unfold ib;rw[cD (by simp),cD t]
    rw[i]at f;have m:dY s.data.toList 10 ⟨q+n,false,false⟩=⟨q+n,false,true⟩:=by
     unfold dY;rw[cN (by simp[WS.look];omega)];simp[WS.look];omega
    rw[m]at f;exact pj (by rw[f]) (by rw[f])
  .have i:ib s.data.toList n ⟨q,false,false⟩=(bytesOf s.data.toList q n,⟨q+n,false,false⟩):=by unfold ib;rw[cD (by simp),cD (by grind)]
   rw[i]at f;have m:dY s.data.toList 10 ⟨q+n,false,false⟩=⟨q+n,true,false⟩:=by
    unfold dY;rw[cD (by simp[WS.look];omega),cD (by show¬s.data.toList.getD (q+n) 0=10;rw[nb h];exact g)]
   simp only at f;rw[m]at f;rw[l];exact pk (by rw[f])
  .have i:ib s.data.toList n ⟨q,false,false⟩=(bytesOf s.data.toList q n,⟨q+n,false,false⟩):=by unfold ib;rw[cD (by simp),cD (by show¬s.data.toList.length<q+n;omega)]
   rw[i]at f;have m:dY s.data.toList 10 ⟨q+n,false,false⟩=⟨q+n+1,false,false⟩:=by
    unfold dY;rw[cD (by simp[WS.look];omega),cN (by show s.data.toList.getD (q+n) 0=10;rw[nb h];exact g)]
   simp only at f;rw[m]at f;rw[l,f];have:bytesOf s.data.toList q n=s.extract q (q+n):=by rw[jo,kM];rfl
   simp only[this]
def pW (a:List ByteArray):iO:=if a.getD 0 eY=⟨#[115,101,116]⟩/\a.length=3 then⟨2,[a.getD 1 eY],a.getD 2 eY,eY,false,0⟩else⟨kB (a.getD 0 eY),a.drop 1,eY,eY,false,0⟩
theorem DK (d:List ByteArray)(u:Nat):gE d u=if fp (pW d).kind (pW d).keys (pW d).val then⟨pW d,u,false⟩else⟨fj iG false,u,false⟩:=by
 by_cases g:d.getD 0 eY=⟨#[115,101,116]⟩
 .have i:=(tN _).2 g;by_cases k:d.length=3
  .obtain⟨a,b,c,rfl⟩:∃a b c,d=[a,b,c]:=by
    match d,k with
    | [a,b,c],_=>exact⟨a,b,c,rfl⟩
   have f:pW [a,b,c]=⟨2,[b],c,eY,false,0⟩:=by unfold pW;rw[cN ⟨g,rfl⟩];rfl
   have j:gE [a,b,c] u=if fp 2 [b] c then⟨⟨2,[b],c,eY,false,0⟩,u,false⟩else⟨fj iG false,u,false⟩:=by unfold gE;rw[i];rfl
   rw[f,j]
  .have l:¬(d.drop 1).length=2:=by simp_all
   have f:pW d=⟨0,d.drop 1,eY,eY,false,0⟩:=by
    have m:kB (d.getD 0 eY)=0:=by rw[g];decide
    unfold pW;rw[cD (fun h=>k h.2),m]
   have j:gE d u=⟨fj iG false,u,false⟩:=by
    unfold gE;simp only
    rw[i,cN rfl,cD l];have n:∀v,fp 2 [] v=false:=fun v=>by simp[fp,gR,eF]
    rw[cD (by rw[n];simp)]
   rw[f,j];have o:fp 0 (d.drop 1) eY=false:=by simp[fp]
   rw[cD (by rw[o];simp)]
 .have i:=fun h=>g ((tN _).1 h)
  have e:gj (d.getD 0 eY)=kB (d.getD 0 eY):=by
   unfold gj kB;simp only[g,jG]
  have f:pW d=⟨kB (d.getD 0 eY),d.drop 1,eY,eY,false,0⟩:=by unfold pW;rw[cD (fun h=>g h.1)]
  rw[f];have p:(if gj (d.getD 0 eY)=2/\(d.drop 1).length=2 then(d.drop 1).getD 1 eY else eY)=eY:=cD (fun h=>i h.1);unfold gE;simp only
  rw[cD i,p,e]
end Go.Proofs.YtlonjggfnleolaaGreatDoor
