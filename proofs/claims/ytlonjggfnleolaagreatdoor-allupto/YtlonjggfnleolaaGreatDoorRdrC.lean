import Derived.Test.YtlonjggfnleolaaGreatDoorRefE
import Derived.OwnWalk
import Derived.Shelf.Strings.Search1
import Derived.Shelf.Strings.Search2
import Derived.Shelf.Strings.Search3
import Derived.Shelf.Strings.Count
import Derived.Shelf.Strings.Split
import Derived.Shelf.Bytes.SlIndexAt
import Derived.Shelf.Bytes.IndexByte
import Derived.Lib.IndexBytes
import Derived.Lib.AppendStr
set_option linter.unusedVariables false
set_option maxHeartbeats 4000000
set_option maxRecDepth 20000
namespace Go.Proofs.YtlonjggfnleolaaGreatDoor
open Go.RowKit Go.Proofs.Tryz
variable {d:List UInt8}{s:WS}
structure PR (w:World)(B:Nat)(a:Option Addr)(n c:Nat)(bs:List UInt8)(s:WS):Prop where
 c0:w.cell? ⟨B,0,none⟩=some (.slice a n c)
 c1:w.cell? ⟨B,1,none⟩=some (.int .i64 s.pos)
 c2:w.cell? ⟨B,2,none⟩=some (.bool s.fG)
 c3:w.cell? ⟨B,3,none⟩=some (.bool s.short)
 fr:∀j,w.frozen? ⟨B,j,none⟩=false
 len:bs.length=n
 cap:n<=c
 small:n<=1000000000000000
 pos:s.pos<=n
 gB:∀g o,a=some ⟨g,o,none⟩->g≠B
 Qb:∀i,i<n->∃g o,a=some ⟨g,o,none⟩/\w.cell? ⟨g,o+i,none⟩=some (.int .u8 (ep bs i))
theorem PR.kept {w w':World}{B:Nat}{a:Option Addr}{n c:Nat}{s':WS}(h:PR w B a n c d s)(k:iq B w w')
 (b:w'.cell? ⟨B,0,none⟩=some (.slice a n c)) (l:w'.cell? ⟨B,1,none⟩=some (.int .i64 s'.pos)) (m:w'.cell? ⟨B,2,none⟩=some (.bool s'.fG)) (p:w'.cell? ⟨B,3,none⟩=some (.bool s'.short))
 (f:∀j,w'.frozen? ⟨B,j,none⟩=w.frozen? ⟨B,j,none⟩) (q:s'.pos<=n):PR w' B a n c d s':=
 ⟨b,l,m,p,fun j=>(f j).trans (h.fr j),h.len,h.cap,h.small,q,h.gB,fun i r=>by
  obtain⟨g,o,e,t⟩:=h.Qb i r;exact⟨g,o,e,(k.cell (p:=⟨g,o+i,none⟩) (h.gB g o e)).trans t⟩⟩
def QH (d:List UInt8)(s:WS):Bool:=(s.look d.length).short || s.fG
theorem Sd (w:World)(B:Nat)(a:Option Addr)(n c:Nat)(d:List UInt8)(s:WS)(W:PR w B a n c d s):Calls prog 258 #[.pointer (some ⟨B,0,none⟩)] w fun e w'=>e= .returned (.tuple #[.int .u8 (if QH d s then 0 else(ep d s.pos:Int)),.bool (!QH d s)])/\PR w' B a n c d (s.look d.length)/\iq B w w':=by
 have t:=cb W;obtain⟨p,wr,i⟩:=s;obtain⟨D,y,z,u,E,b,A,F,k,l,f⟩:=W;simp only at y z u k;have H:=cb b;have m:QH d ⟨p,wr,i⟩=((i || decide (p=n)) || wr):=by simp[QH,WS.look,b]
 have q:WS.look d.length ⟨p,wr,i⟩=⟨p,wr,i || decide (p=n)⟩:=by simp[WS.look,b]
 rw[m,q];clear m q;cases i with
 |true=>
  simp only[Bool.true_or,pS,lz]
  have d3:(w.setCell ⟨B,3,none⟩ (.bool true)).cell? ⟨B,3,none⟩=some (.bool true):=fq _ _ _ (by rw[u];rfl);clear b f l;go_wp2;go_region
  go_wp2;go_ret2;have h:iq B w ((w.setCell ⟨B,3,none⟩ (.bool true)).drew):=((iq.refl B w).setCell rfl _).drew;refine⟨rfl,t.out.kept h (by go_simp) (by go_simp) (by go_simp) (by go_simp) (fun j=>by go_simp) k,h⟩
 |false=>
  by_cases r:p=n
  .subst r;simp only[decide_true,jI,Bool.true_or,pS,lz]
   have d3:(w.setCell ⟨B,3,none⟩ (.bool true)).cell? ⟨B,3,none⟩=some (.bool true):=fq _ _ _ (by rw[u];rfl);clear b f l;go_wp2;go_region
   go_wp2;go_ret2;have h:iq B w ((w.setCell ⟨B,3,none⟩ (.bool true)).drew):=((iq.refl B w).setCell rfl _).drew;refine⟨rfl,t.out.kept h (by go_simp) (by go_simp) (by go_simp) (by go_simp) (fun j=>by go_simp) k,h⟩
  .have I:((p:Int)==(n:Int))=false:=by rw[dW];omega
   have d3:(w.setCell ⟨B,3,none⟩ (.bool false)).cell? ⟨B,3,none⟩=some (.bool false):=fq _ _ _ (by rw[u];rfl);have v:decide (p=n)=false:=by simp[r]
   rw[v];clear v;cases wr with
   |true=>
    simp only[jI,pS,lz]
    clear b f l;go_wp2;go_region
    go_wp2;go_ret2;have h:iq B w ((w.setCell ⟨B,3,none⟩ (.bool false)).drew):=((iq.refl B w).setCell rfl _).drew;refine⟨rfl,t.out.kept h (by go_simp) (by go_simp) (by go_simp) (by go_simp) (fun j=>by go_simp) k,h⟩
   |false=>
    simp only[jI,fX,jG,gK]
    obtain⟨g,o,rfl,J⟩:=f p (by omega);have C:=l g o rfl;clear b f l;generalize ep d p=x at*;go_wp2;go_region
    go_wp2;go_region
    go_wp2;go_ret2;have h:iq B w ((w.setCell ⟨B,3,none⟩ (.bool false)).drew).drew:=(((iq.refl B w).setCell rfl _).drew).drew;refine⟨rfl,t.out.kept h (by go_simp) (by go_simp) (by go_simp) (by go_simp) (fun j=>by go_simp) k,h⟩
theorem AJ (h:QH d s=false):s.look d.length=s/\s.fG=false/\s.short=false/\s.pos≠d.length:=by
 obtain⟨p,wr,e⟩:=s;simp only[QH,WS.look,me,eG]at h;obtain⟨⟨a,b⟩,c⟩:=h;refine⟨?_,c,a,b⟩;simp only[WS.look,a,jI]
 simp[b]
theorem Bs (w:World)(B:Nat)(a:Option Addr)(n c:Nat)(d:List UInt8)(s:WS)(b:UInt8)(W:PR w B a n c d s):Calls prog 253 #[.pointer (some ⟨B,0,none⟩),.int .u8 (b.toNat:Int)] w fun e w'=>e= .returned (.tuple #[])/\PR w' B a n c d (dY d b s)/\iq B w w':=by
 have i:=cb (Sd w B a n c d s W);cases q:QH d s with
 |true=>
  have r:dY d b s=s.look d.length:=by unfold dY;rw[cN];exact q
  rw[r];go_enter func253,ntmps253;go_wp2_with fail
  refine i.out.mono ?_;rintro e f ⟨rfl,g,k⟩;have l:=cb g;go_wp2;refine cE (pX rfl _ _ _) rfl ?_;exact⟨rfl,l.out,k⟩
 |false=>
  obtain⟨F,A,C,H⟩:=AJ q;obtain⟨p,wr,L⟩:=s;simp only at A C H;subst A;subst C;have r:dY d b ⟨p,false,false⟩=if d.getD p 0=b then⟨p+1,false,false⟩else⟨p,true,false⟩:=by
   unfold dY;rw[cD];show¬QH d ⟨p,false,false⟩=true;rw[q];simp
  rw[r];rw[q,F]at i;have D:=W.len;have E:=W.pos;have M:=W.small;have t:ep d p=(d.getD p 0).toNat:=rfl;rw[t]at i;generalize d.getD p 0=x at*;by_cases u:x=b
  .subst u;rw[cN rfl];go_enter func253,ntmps253;go_wp2_with fail
   refine i.out.mono ?_;rintro e f ⟨rfl,g,k⟩;have l:=cb g;obtain⟨I,v,m,y,J,_,_,_,_,_,_⟩:=g;simp only at v m y;have d2:(f.setCell ⟨B,2,none⟩ (.bool false)).cell? ⟨B,2,none⟩=some (.bool false):=fq _ _ _ (by rw[m];rfl);go_wp2;go_end0;have o:iq B f ((f.setCell ⟨B,2,none⟩ (.bool false)).setCell ⟨B,1,none⟩ (.int .i64 ((p:Int)+1))):=((iq.refl B f).setCell rfl _).setCell rfl _;refine⟨rfl,l.out.kept o (by go_simp) (by go_simp) (by go_simp) (by go_simp) (fun j=>by go_simp) (by show p+1<=n;omega),k.trans o⟩
  .rw[cD u];have z:((x.toNat:Int)==(b.toNat:Int))=false:=by
    rw[dW];intro h;apply u;apply nv.1;omega
   have K:((x.toNat:Int) != (b.toNat:Int))=true:=by simp only[bne,z,gK]
   go_enter func253,ntmps253;go_wp2_with fail
   refine i.out.mono ?_;rintro e f ⟨rfl,g,k⟩;have l:=cb g;obtain⟨I,v,m,y,J,_,_,_,_,_,_⟩:=g;simp only at v m y;have d2:(f.setCell ⟨B,2,none⟩ (.bool true)).cell? ⟨B,2,none⟩=some (.bool true):=fq _ _ _ (by rw[m];rfl);go_wp2;go_end0;have o:iq B f (f.setCell ⟨B,2,none⟩ (.bool true)):=(iq.refl B f).setCell rfl _;refine⟨rfl,l.out.kept o (by go_simp) (by go_simp) (by go_simp) (by go_simp) (fun j=>by go_simp) (by show p<=n;omega),k.trans o⟩
def sK (d:List UInt8)(a c:Nat)(s:WS)(k:Nat)(b:Bool):Nat×WS:=
 if QH d s then(0,s.look d.length)else eJ d a c (d.length-s.pos) s.pos k b
def tX (c d:Nat)(b:UInt8)(k:Nat)(a:Bool):Bool:= !PH b || decide (d<k*10+(b.toNat-48)) || (a&&decide (b.toNat-48<c)) || (!a&&decide (k=0))
theorem Cr (c:List UInt8)(b d p k:Nat)(a:Bool)(h:p<c.length):sK c b d ⟨p,false,false⟩ k a=if(!a&&(c.getD p 0==10))=true then(k,⟨p+1,false,false⟩)else if tX b d (c.getD p 0) k a=true then(0,⟨p,true,false⟩)else sK c b d ⟨p+1,false,false⟩ (k*10+((c.getD p 0).toNat-48)) false:=by
 have s:QH c ⟨p,false,false⟩=false:=by
  simp only[QH,WS.look,jI,Bool.or_false,eG];omega
 unfold sK;rw[s];simp only[fX,jG]
 obtain⟨f,t⟩:∃f,c.length-p=f+1:=⟨c.length-p-1,by omega⟩
 rw[t];conv=>lhs;unfold eJ
 have e:(PH (c.getD p 0)=false\/d<k*10+(ep c p-48)\/(a=true/\ep c p-48<b)\/(a=false/\k=0))↔tX b d (c.getD p 0) k a=true:=by
  simp only[tX,fA,cO,Bool.not_eq_true',cX]
  constructor
  .rintro (h|h|h|h)
   .exact .inl (.inl (.inl h))
   .exact .inl (.inl (.inr h))
   .exact .inl (.inr h)
   .exact .inr h
  .rintro (((h|h)|h)|h)
   .exact .inl h
   .exact .inr (.inl h)
   .exact .inr (.inr (.inl h))
   .exact .inr (.inr (.inr h))
 have g:(a=false/\c.getD p 0=10)↔(!a&&(c.getD p 0==10))=true:=by simp
 have i:eJ c b d f (p+1) (k*10+(ep c p-48)) false=(if QH c ⟨p+1,false,false⟩=true then(0,WS.look c.length ⟨p+1,false,false⟩)else eJ c b d (c.length-(p+1)) (p+1) (k*10+((c.getD p 0).toNat-48)) false):=by
  by_cases r:p+1=c.length
  .have j:QH c ⟨p+1,false,false⟩=true:=by simp[QH,WS.look,r]
   have q:f=0:=by omega
   rw[j,q,cN rfl];simp[eJ,WS.look,r]
  .have j:QH c ⟨p+1,false,false⟩=false:=by
    simp only[QH,WS.look,jI,Bool.or_false,eG];omega
   rw[j,cD (by simp)];have:c.length-(p+1)=f:=by omega
   rw[this];rfl
 by_cases n:a=false/\c.getD p 0=10
 .have l:=g.1 n;rw[cN n,cN l]
 .have l:=fun h=>n (g.2 h)
  rw[cD n,cD l];by_cases o:PH (c.getD p 0)=false\/d<k*10+(ep c p-48)\/(a=true/\ep c p-48<b)\/(a=false/\k=0)
  .have m:=e.1 o;rw[cN o,cN m]
  .have m:=fun h=>o (e.2 h)
   rw[cD o,cD m];exact i
def DP (w:World)(B:Nat):Nat:=(intOf ((w.cell? ⟨B,1,none⟩).getD (.int .i64 0))).toNat
theorem PR.DP {w:World}{B:Nat}{a:Option Addr}{n c:Nat}{b:List UInt8}{s:WS}(h:PR w B a n c b s):DP w B=s.pos:=by
 unfold YtlonjggfnleolaaGreatDoor.DP;rw[h.c1];simp[intOf]
theorem JJ (w:World)(B:Nat)(a:Option Addr)(n c:Nat)(v:List UInt8)(s:WS)(d g:Nat)(W:PR w B a n c v s)(hm:g<=40)(hl:d<=1):Calls prog 254 #[.pointer (some ⟨B,0,none⟩),.int .i64 (d:Int),.int .i64 (g:Int)] w fun e w'=>e= .returned (.int .i64 ((fC v d g s).1:Int))/\PR w' B a n c v (fC v d g s).2/\iq B w w':=by
 have HW:=cb W;have F:Hid (sK v d g s 0 true=fC v d g s):=(show _=_ from rfl)
 generalize fC v d g s=R at*;have HL:=cb W.len;have sm:=W.small;clear W;go_wp2;go_loopw [7,8] (fun k f wr=>∃(x:Nat) (K:Bool) (M:WS),k= .int .i64 x/\f= .bool K/\x<=40/\Hid (PR wr B a n c v M/\iq B w wr/\sK v d g M x K=R)) (fun _ _ wr=>n+1-DP wr B)
 case atStart=>exact⟨0,true,s,rfl,rfl,by omega,HW.out,iq.refl _ _,F.out⟩
 case round=>
  obtain⟨x,K,M,rfl,rfl,hk,t⟩:=hrel;have E:=cb (Sd wr B a n c v M t.out.1);cases Q:QH v M with
  |true=>
   have C:R=(0,M.look v.length):=by rw[<-t.out.2.2];unfold sK;rw[Q];rfl
   rw[Q]at E;subst C;go_wp2_with fail
   go_at_call 258;refine E.out.mono ?_;rintro e i ⟨rfl,m,o⟩;have q:=cb (cd m (t.out.2.1.trans o));clear m o t F;go_wp2;go_ret;exact⟨rfl,q.out.1,q.out.2⟩
  |false=>
   obtain⟨S,hw,hs,hp⟩:=AJ Q;obtain⟨p,aa,sh⟩:=M;simp only at hw hs hp;subst hw;subst hs;have T:p<v.length:=by have h1:=t.out.1.pos;have h2:=HL.out;simp only at h1;omega
   have U:DP wr B=p:=t.out.1.DP;have HP:=cb U;clear U;have y:=cb ((Cr v d g p x K T).symm.trans t.out.2.2);rw[Q,S]at E;have V:ep v p=(v.getD p 0).toNat:=rfl;rw[V]at E;have N:(v.getD p 0).toNat<256:=eX _;have ab:p<n:=by have:=HL.out;omega
   clear V Q S hp T;generalize v.getD p 0=b at*;have wx:IntKind.i64.wrap ((b.toNat:Int))=b.toNat:=eM _ (by omega) (by omega);have Y:∀(P:Prop),P->P:=fun _ h=>h
   clear Y;by_cases u:(!K&&(b==10))=true
   .have e1:K=false:=by cases K with|false=>rfl|true=>simp at u
    have e2:b=10:=by subst e1;simpa using u
    subst e1;subst e2;have C:R=(x,⟨p+1,false,false⟩):=by have:=y.out;rw[cN (by rfl)]at this;exact this.symm
    subst C;have L:((10:UInt8).toNat:Int)=10:=rfl;rw[L]at E;clear L wx N u;go_wp2_with fail
    go_at_call 258;refine E.out.mono ?_;rintro e i ⟨rfl,m,o⟩;have q:=cb (cd m (t.out.2.1.trans o));obtain⟨I,u,z,A,J,_,_,_,_,_,_⟩:=m;simp only at u z A;clear o t F y;go_wp2;go_ret;have r:iq B i (i.setCell ⟨B,1,none⟩ (.int .i64 ((p:Int)+1))):=(iq.refl B i).setCell rfl _;exact⟨rfl,q.out.1.kept r (by go_simp) (by go_simp) (by go_simp) (by go_simp) (fun j=>by go_simp) (by show p+1<=n;omega),q.out.2.trans r⟩
   cases K with
   |true=>
    by_cases t1:(b.toNat:Int)-48<0
    .have H:PH b=false:=by simp only[PH,ig,eG];omega
     have C:R=(0,⟨p,true,false⟩):=by
      have:=y.out;rw[cD u,cN (by simp[tX,H])]at this;exact this.symm
     subst C;go_wp2_with fail
     go_at_call 258;refine E.out.mono ?_;rintro e i ⟨rfl,m,o⟩;have q:=cb (cd m (t.out.2.1.trans o));obtain⟨I,l,z,A,J,_,_,_,_,_,_⟩:=m;simp only at l z A;clear o t F y u;go_wp2;go_ret;have r:iq B i (i.setCell ⟨B,2,none⟩ (.bool true)):=(iq.refl B i).setCell rfl _;exact⟨rfl,q.out.1.kept r (by go_simp) (by go_simp) (by go_simp) (by go_simp) (fun j=>by go_simp) (by show p<=n;omega),q.out.2.trans r⟩
    by_cases t2:9<(b.toNat:Int)-48
    .have H:PH b=false:=by simp only[PH,ig,eG];omega
     have C:R=(0,⟨p,true,false⟩):=by
      have:=y.out;rw[cD u,cN (by simp[tX,H])]at this;exact this.symm
     subst C;go_wp2_with fail
     go_at_call 258;refine E.out.mono ?_;rintro e i ⟨rfl,m,o⟩;have q:=cb (cd m (t.out.2.1.trans o));obtain⟨I,l,z,A,J,_,_,_,_,_,_⟩:=m;simp only at l z A;clear o t F y u;go_wp2;go_ret;have r:iq B i (i.setCell ⟨B,2,none⟩ (.bool true)):=(iq.refl B i).setCell rfl _;exact⟨rfl,q.out.1.kept r (by go_simp) (by go_simp) (by go_simp) (by go_simp) (fun j=>by go_simp) (by show p<=n;omega),q.out.2.trans r⟩
    have H:PH b=true:=by simp only[PH,cO,cX];omega
    by_cases t3:(g:Int)<(x:Int)*10+((b.toNat:Int)-48)
    .have O:g<x*10+(b.toNat-48):=by omega
     have C:R=(0,⟨p,true,false⟩):=by
      have:=y.out;rw[cD u,cN (by simp[tX,O])]at this;exact this.symm
     subst C;go_wp2_with fail
     go_at_call 258;refine E.out.mono ?_;rintro e i ⟨rfl,m,o⟩;have q:=cb (cd m (t.out.2.1.trans o));obtain⟨I,l,z,A,J,_,_,_,_,_,_⟩:=m;simp only at l z A;clear o t F y u;go_wp2;go_ret;have r:iq B i (i.setCell ⟨B,2,none⟩ (.bool true)):=(iq.refl B i).setCell rfl _;exact⟨rfl,q.out.1.kept r (by go_simp) (by go_simp) (by go_simp) (by go_simp) (fun j=>by go_simp) (by show p<=n;omega),q.out.2.trans r⟩
    have O:¬g<x*10+(b.toNat-48):=by omega
    by_cases t4:(b.toNat:Int)-48<(d:Int)
    .have Z:b.toNat-48<d:=by omega
     have C:R=(0,⟨p,true,false⟩):=by
      have:=y.out;rw[cD u,cN (by simp[tX,Z])]at this;exact this.symm
     subst C;go_wp2_with fail
     go_at_call 258;refine E.out.mono ?_;rintro e i ⟨rfl,m,o⟩;have q:=cb (cd m (t.out.2.1.trans o));obtain⟨I,l,z,A,J,_,_,_,_,_,_⟩:=m;simp only at l z A;clear o t F y u;go_wp2;go_ret;have r:iq B i (i.setCell ⟨B,2,none⟩ (.bool true)):=(iq.refl B i).setCell rfl _;exact⟨rfl,q.out.1.kept r (by go_simp) (by go_simp) (by go_simp) (by go_simp) (fun j=>by go_simp) (by show p<=n;omega),q.out.2.trans r⟩
    have Z:¬b.toNat-48<d:=by omega
    have D:¬tX d g b x true=true:=by simp[tX,H,O,Z]
    have HG:Hid (sK v d g ⟨p+1,false,false⟩ (x*10+(b.toNat-48)) false=R):=by
     show _=_;have:=y.out;rw[cD u,cD D]at this;exact this
    go_wp2_with fail
    go_at_call 258;refine E.out.mono ?_;rintro e i ⟨rfl,m,o⟩;have q:=cb (cd m (t.out.2.1.trans o));obtain⟨I,l,z,A,J,_,_,_,_,_,_⟩:=m;simp only at l z A;clear o t F y u D;go_wp2;have r:iq B i (i.setCell ⟨B,1,none⟩ (.int .i64 ((p:Int)+1))):=(iq.refl B i).setCell rfl _;have X:PR (i.setCell ⟨B,1,none⟩ (.int .i64 ((p:Int)+1))) B a n c v ⟨p+1,false,false⟩:=q.out.1.kept r (by go_simp) (by go_simp) (by go_simp) (by go_simp) (fun j=>by go_simp) (by show p+1<=n;omega);go_roundw;case rel=>exact⟨x*10+(b.toNat-48),false,⟨p+1,false,false⟩,by congr 1;omega,rfl,by omega,X,q.out.2.trans r,HG.out⟩
    case measure=>rw[HP.out,X.DP];show _-(p+1)<_;omega
   |false=>
    have ac:((b.toNat:Int)==10)=false:=by
     rw[dW];intro h;apply u;have:b=10:=by apply nv.1;show b.toNat=10;omega
     rw[this];rfl
    by_cases t1:(b.toNat:Int)-48<0
    .have H:PH b=false:=by simp only[PH,ig,eG];omega
     have C:R=(0,⟨p,true,false⟩):=by
      have:=y.out;rw[cD u,cN (by simp[tX,H])]at this;exact this.symm
     subst C;go_wp2_with fail
     go_at_call 258;refine E.out.mono ?_;rintro e i ⟨rfl,m,o⟩;have q:=cb (cd m (t.out.2.1.trans o));obtain⟨I,l,z,A,J,_,_,_,_,_,_⟩:=m;simp only at l z A;clear o t F y u;go_wp2;go_ret;have r:iq B i (i.setCell ⟨B,2,none⟩ (.bool true)):=(iq.refl B i).setCell rfl _;exact⟨rfl,q.out.1.kept r (by go_simp) (by go_simp) (by go_simp) (by go_simp) (fun j=>by go_simp) (by show p<=n;omega),q.out.2.trans r⟩
    by_cases t2:9<(b.toNat:Int)-48
    .have H:PH b=false:=by simp only[PH,ig,eG];omega
     have C:R=(0,⟨p,true,false⟩):=by
      have:=y.out;rw[cD u,cN (by simp[tX,H])]at this;exact this.symm
     subst C;go_wp2_with fail
     go_at_call 258;refine E.out.mono ?_;rintro e i ⟨rfl,m,o⟩;have q:=cb (cd m (t.out.2.1.trans o));obtain⟨I,l,z,A,J,_,_,_,_,_,_⟩:=m;simp only at l z A;clear o t F y u;go_wp2;go_ret;have r:iq B i (i.setCell ⟨B,2,none⟩ (.bool true)):=(iq.refl B i).setCell rfl _;exact⟨rfl,q.out.1.kept r (by go_simp) (by go_simp) (by go_simp) (by go_simp) (fun j=>by go_simp) (by show p<=n;omega),q.out.2.trans r⟩
    have H:PH b=true:=by simp only[PH,cO,cX];omega
    by_cases t3:(g:Int)<(x:Int)*10+((b.toNat:Int)-48)
    .have O:g<x*10+(b.toNat-48):=by omega
     have C:R=(0,⟨p,true,false⟩):=by
      have:=y.out;rw[cD u,cN (by simp[tX,O])]at this;exact this.symm
     subst C;go_wp2_with fail
     go_at_call 258;refine E.out.mono ?_;rintro e i ⟨rfl,m,o⟩;have q:=cb (cd m (t.out.2.1.trans o));obtain⟨I,l,z,A,J,_,_,_,_,_,_⟩:=m;simp only at l z A;clear o t F y u;go_wp2;go_ret;have r:iq B i (i.setCell ⟨B,2,none⟩ (.bool true)):=(iq.refl B i).setCell rfl _;exact⟨rfl,q.out.1.kept r (by go_simp) (by go_simp) (by go_simp) (by go_simp) (fun j=>by go_simp) (by show p<=n;omega),q.out.2.trans r⟩
    have O:¬g<x*10+(b.toNat-48):=by omega
    by_cases t4:x=0
    .have t5:((x:Int)==0)=true:=by simp[t4]
     have h5:tX d g b x false=true:=by simp[tX,t4]
     clear t4;have C:R=(0,⟨p,true,false⟩):=by
      have:=y.out;rw[cD u,cN (h5)]at this;exact this.symm
     subst C;go_wp2_with fail
     go_at_call 258;refine E.out.mono ?_;rintro e i ⟨rfl,m,o⟩;have q:=cb (cd m (t.out.2.1.trans o));obtain⟨I,l,z,A,J,_,_,_,_,_,_⟩:=m;simp only at l z A;clear o t F y u h5;go_wp2;go_ret;have r:iq B i (i.setCell ⟨B,2,none⟩ (.bool true)):=(iq.refl B i).setCell rfl _;exact⟨rfl,q.out.1.kept r (by go_simp) (by go_simp) (by go_simp) (by go_simp) (fun j=>by go_simp) (by show p<=n;omega),q.out.2.trans r⟩
    have t5:((x:Int)==0)=false:=by rw[dW];omega
    have D:¬tX d g b x false=true:=by simp[tX,H,O,t4]
    clear t4;have HG:Hid (sK v d g ⟨p+1,false,false⟩ (x*10+(b.toNat-48)) false=R):=by
     show _=_;have:=y.out;rw[cD u,cD D]at this;exact this
    go_wp2_with fail
    go_at_call 258;refine E.out.mono ?_;rintro e i ⟨rfl,m,o⟩;have q:=cb (cd m (t.out.2.1.trans o));obtain⟨I,l,z,A,J,_,_,_,_,_,_⟩:=m;simp only at l z A;clear o t F y u D;go_wp2;have r:iq B i (i.setCell ⟨B,1,none⟩ (.int .i64 ((p:Int)+1))):=(iq.refl B i).setCell rfl _;have X:PR (i.setCell ⟨B,1,none⟩ (.int .i64 ((p:Int)+1))) B a n c v ⟨p+1,false,false⟩:=q.out.1.kept r (by go_simp) (by go_simp) (by go_simp) (by go_simp) (fun j=>by go_simp) (by show p+1<=n;omega);go_roundw;case rel=>exact⟨x*10+(b.toNat-48),false,⟨p+1,false,false⟩,by congr 1;omega,rfl,by omega,X,q.out.2.trans r,HG.out⟩
    case measure=>rw[HP.out,X.DP];show _-(p+1)<_;omega
theorem mH {w a:World}(h:Below w.drew.heap.size w.drew a):Below w.heap.size w a:=⟨h.os,h.tape,h.output,h.size,h.block⟩
theorem zI (T:Nat)(x y z:ByteArray)(u:Nat)(w:World)(hT:gG w T 5 [x,y,z])(hs:y.size<=maxLen)(aa:z.size<=maxLen)(hk:gj x=2):Calls prog 256 #[.slice (some ⟨T,0,none⟩) 3 5,.int .i64 (u:Int)] w fun e w'=>kG w w' (some (gE [x,y,z] u)) e/\Below w.heap.size w w':=by
 have hR:gE [x,y,z] u=if fp 2 [y] z then⟨⟨2,[y],z,eY,false,0⟩,u,false⟩else⟨fj iG false,u,false⟩:=by
  unfold gE;simp only[mS,iN,List.drop_zero,hk,pS,dc,fk,List.take_succ_cons,jT,and_self,List.getD_cons_succ]
 have HR:=cb hR;clear hR;obtain⟨i9,hi,E,F,H⟩:=wR;have I:=cb (cd hi (cd E (cd F H)));clear hi E F H;have ab:=hT.lt;have ag:T<w.heap.size+1:=by omega
 obtain⟨Z,R,ac,ad,l⟩:=hT;have c0:w.cell? ⟨T,0,none⟩=some (.string x):=by rw[cn R 0];exact l 0 x rfl
 have c1:w.cell? ⟨T,1,none⟩=some (.string y):=by rw[cn R 1];exact l 1 y rfl
 have c2:w.cell? ⟨T,2,none⟩=some (.string z):=by rw[cn R 2];exact l 2 z rfl
 have ae:w.cell? ⟨T,1+1,none⟩=some (.string z):=c2;clear R ac ad l Z;have HX:=cb (show∀W:World,Calls prog 224 #[.string x] W fun e w'=>e= .returned (.int .i64 2)/\w'=W from fun W=>by rw[<-hk];exact lh x W);have HY:=cb c1;clear hk;have HN:Hid (∀W,Below w.heap.size w W->∀(j:Nat) (v:Value),[Value.string y][j]?=some v->W.cell? ((⟨T,1,none⟩:Addr).add j)=some v):=fun W hW j v S=>by
  match j,S with
  |0,S=>
   simp at S;subst S;have J:(⟨T,1,none⟩:Addr).add 0=⟨T,1,none⟩:=by unfold Addr.add;split<;>simp_all
   rw[J];exact(hW.cell (p:=⟨T,1,none⟩) ab).trans HY.out
 have HO:Hid (∀u∈[Value.string y],u.oneCell'=true):=fun u hu=>by
  simp at hu;subst hu;rfl
 go_enter func256,ntmps256;go_wp2_with (go_at_call 224;refine(HX.out _).mono ?_;rintro e w' ⟨rfl,rfl⟩)
 go_region
 go_wp2_with (first
  |(at_builtin;refine wpList_append_lies _ rfl _ _ _ rfl w.heap.size 9 i9 (.string ⟨#[]⟩) 1 16 eO I.out.1 I.out.2.1 I.out.2.2.1 I.out.2.2.2 rfl (by omega) (.slice none 0 0) 0 [] rfl (dv _ _ _ _) ⟨T,1,none⟩ 1 4 [Value.string y] rfl rfl (HN.out _ BW) HO.out (by omega) (by unfold maxLen;omega) (by omega) (by simp;omega) _ rfl ?_;intro g a C m c K ah;have o:=mH (kY c);have U:=cb (cd m (cd o K));obtain⟨p,q⟩:=tH o;obtain⟨⟨V,X,Y,r3,r4,r5,r6,r7⟩,rf⟩:=gk p;obtain⟨⟨k0,k1,k2,k3,k4,k5⟩,kf⟩:=gf q;have r:=cb (cd p q);clear m c K o p q)
  |fail)
 have hg:g=w.heap.size+1+1:=by
  rcases U.out.2.2 with h|h
  .cases h
  .simpa using h
 have L:gG C g a [y]:=by
  have:=U.out.1;rw[fI]at this;exact(ll (b:=[y]) (m:=1) rfl (by omega) this).1
 have d:=L.other (w':=C.setCell ⟨w.heap.size+1,1,none⟩ (.slice (some ⟨g,0,none⟩) 1 a)) (cz _ _ _ _ (by show g≠w.heap.size+1;omega));have hS:=uK d (by simp) (by simpa using hs);have n:Below w.heap.size w C:=(cU.alloc (by simp) _).trans (U.out.2.1.mono (by simp;omega));have b:Below w.heap.size w (C.setCell ⟨w.heap.size+1,1,none⟩ (.slice (some ⟨g,0,none⟩) 1 a)):=n.setCell (p:=⟨w.heap.size+1,1,none⟩) (by show w.heap.size<=w.heap.size+1;omega) _;have f:(C.setCell ⟨w.heap.size+1,1,none⟩ (.slice (some ⟨g,0,none⟩) 1 a)).heap[w.heap.size]?=some (.cells #[.int .i64 0,.slice none 0 0,.string ⟨#[]⟩,.string ⟨#[]⟩,.bool false,.int .i64 0,.int .i64 0,.bool false] 255 (0,0)):=(cz _ ⟨w.heap.size+1,1,none⟩ _ _ (by show w.heap.size≠w.heap.size+1;omega)).trans r.out.1
 have i:=dh (i:=1) r.out.2 (.slice (some ⟨g,0,none⟩) 1 a);have s:=cb (mI 2 _ [y] z ⟨#[]⟩ false 0 _ hS aa);clear hS V X Y r3 r4 r5 r6 r7 rf k0 k1 k2 k3 k4 k5 kf HN HX c0 c1 c2 ae HY;clear U r L n I HO;generalize af:C.setCell ⟨w.heap.size+1,1,none⟩ (.slice (some ⟨g,0,none⟩) 1 a)=w2 at*;clear af;unfold db at s;refine s.out.mono ?_;rintro e w3 ⟨rfl,k⟩;have t:=(k.block _ (cA f)).trans f;have A:=(k.block _ (cA i)).trans i;have M:=d.later k;have N:=b.trans (k.mono b.size);have D:=cb (cd t (cd A (cd M N)));obtain⟨⟨V,X,Y,r3,r4,r5,r6,r7⟩,rf⟩:=gk t;obtain⟨⟨k0,k1,k2,k3,k4,k5⟩,kf⟩:=gf A
 clear k t A M N f i d b s;cases O:fp 2 [y] z with
 |false=>
  go_wp2_with fail
  go_at_call 218;refine(jP _ _ _).mono ?_;rintro e w4 ⟨rfl,B⟩;have P:=(B.block _ (cA D.out.1)).trans D.out.1;have Q:=D.out.2.2.2.trans (B.mono D.out.2.2.2.size);obtain⟨⟨s0,s1,s2,s3,s4,s5,s6,s7⟩,sf⟩:=gk P;have H4:=cb Q;clear B P Q V X Y r3 r4 r5 r6 r7 rf k0 k1 k2 k3 k4 k5 kf;unfold eK;go_wp2;refine cE (v:=eK 4 (.slice none 0 0) ⟨#[]⟩ iG false 0 u false) (by simp[results,results256,go_sem,eK,iG,s0,s1,s2,s3,s4,s5,s6,s7]) rfl ⟨?_,?_⟩
  .rw[HR.out,O,cD (by simp)];exact⟨_,rfl,.inl ⟨rfl,rfl⟩⟩
  .exact qA H4.out (PC _) _ _ _ _ _ _ _ _
 |true=>
  go_wp2;refine cE (v:=eK 2 (.slice (some ⟨g,0,none⟩) 1 a) z ⟨#[]⟩ false 0 u false) (by simp[results,results256,go_sem,eK,V,X,Y,r3,r4,r5,r6,r7]) rfl ⟨?_,?_⟩
  .rw[HR.out,O,cN rfl];refine⟨_,rfl,.inr ⟨g,a,rfl,by omega,D.out.2.2.1.other ?_⟩⟩;exact oP (by omega) _ _ _ _ _ _ _ _
  .exact qA D.out.2.2.2 (PC _) _ _ _ _ _ _ _ _
theorem te (T n:Nat)(x:ByteArray)(r:iC)(u:Nat)(w:World)(s:T<w.heap.size)(H:w.cell? ⟨T,0,none⟩=some (.string x))(I:n<=5)(J:1<=n)(a:(gj x=2/\n≠3)\/(gj x≠2/\n=1)):Calls prog 256 #[.slice (some ⟨T,0,none⟩) n 5,.int .i64 (u:Int)] w fun e w'=>kG w w' (some ⟨fj iG false,u,false⟩) e/\Below w.heap.size w w':=by
 have i:=PE w;have d:∀k:Int,fp k [] ⟨#[]⟩=false:=by
  intro k;simp[fp,gR,eF]
 have j:Hid (∀(k:Int) (W:World),Calls prog 48 #[.agg #[.int .i64 k,.slice none 0 0,.string ⟨#[]⟩,.string ⟨#[]⟩,.bool false,.int .i64 0]] W fun e w'=>e= .returned (.bool false)/\Below W.heap.size W w'):=fun k W=>by
  have:=mI k (.slice none 0 0) [] ⟨#[]⟩ ⟨#[]⟩ false 0 W ⟨.inr ⟨none,rfl,rfl⟩,by simp,by simp⟩ (by decide);rw[d k]at this;exact this
 clear d;rcases a with⟨a,l⟩|⟨a,m⟩
 case' inl=>
  have p:=cb (show∀W:World,Calls prog 224 #[.string x] W fun e w'=>e= .returned (.int .i64 2)/\w'=W from fun W=>by rw[<-a];exact lh x W)
  have q:(((n-1:Nat):Int)==2)=false:=by rw[dW];omega
  clear a l
 case' inr=>
  have t:(gj x==2)=false:=by simpa using a
  have p:=cb (show∀W:World,Calls prog 224 #[.string x] W fun e w'=>e= .returned (.int .i64 (gj x))/\w'=W from fun W=>lh x W)
  subst m
  clear a
  generalize gj x=k at*
 all_goals
  go_enter func256,ntmps256
  go_wp2_with (first
   |(go_at_call 224;refine(p.out _).mono ?_;rintro e w' ⟨rfl,rfl⟩)
   |(go_at_call 48;refine(j.out _ _).mono ?_;rintro e K ⟨rfl,b⟩;obtain⟨f,o⟩:=tH b;have h:=cb (cd f ((i.out _ _).trans (b.mono (by simp;omega))));clear f o b)
   |(go_at_call 218;refine(jP _ _ _).mono ?_;rintro e L ⟨rfl,c⟩;have g:=(c.block _ (cA h.out.1)).trans h.out.1;have v:=cb (h.out.2.trans (c.mono h.out.2.size));obtain⟨⟨y,z,A,B,C,D,E,F⟩,M⟩:=gk g;clear g c;unfold eK))
  refine cE (v:=eK 4 (.slice none 0 0) ⟨#[]⟩ iG false 0 u false) (by simp[results,results256,go_sem,eK,iG,y,z,A,B,C,D,E,F]) rfl ⟨⟨_,rfl,.inl ⟨rfl,rfl⟩⟩,?_⟩
  exact qA v.out (PC _) _ _ _ _ _ _ _ _
theorem zH (T:Nat)(f:List ByteArray)(n u:Nat)(w:World)(o:f.length=n)(b:gG w T 5 f)(h:1<=n)(i:n<=5)(c:∀s∈f,s.size<=maxLen):Calls prog 256 #[.slice (some ⟨T,0,none⟩) n 5,.int .i64 (u:Int)] w fun e w'=>kG w w' (some (gE f u)) e/\Below w.heap.size w w':=by
 subst o;have d:∀x a,f=x::a->w.cell? ⟨T,0,none⟩=some (.string x):=by
  rintro x a rfl;obtain⟨Z,p,_,_,q⟩:=b;rw[cn p 0];exact q 0 x rfl
 match f,b,h,i,c,d with
 |x::a,b,h,i,c,d=>
  have k:=d x a rfl;by_cases g:gj x=2
  .by_cases l:a.length=2
   .match a,l,b,c with
    | [y,z],_,b,c=>exact zI T x y z u w b (c y (by simp)) (c z (by simp)) g
   .have e:gE (x::a) u=⟨fj iG false,u,false⟩:=by
     have m:fp 2 [] eY=false:=by simp[fp,gR,eF]
     unfold gE;simp only[mS,iN,List.drop_zero,g,pS,l,jG,and_false]
     rfl
    rw[e];exact te T _ x ⟨fj iG false,u,false⟩ u w b.lt k i h (.inl ⟨g,by simp;omega⟩)
  .by_cases r:a=[]
   .subst r;have e:gE [x] u=⟨fj iG false,u,false⟩:=by
     have m:fp (gj x) [] eY=false:=by simp[fp,gR,eF]
     unfold gE;simp only[mS,iN,List.drop_nil,g,jG,false_and]
     rw[m];rfl
    rw[e];exact te T _ x ⟨fj iG false,u,false⟩ u w b.lt k i h (.inr ⟨g,by simp⟩)
   .have t:1<=a.length:=by grind
    exact xv T x a a.length u w rfl b t (by grind) (fun s j=>c s (by simp[j])) g
theorem Ee (W:World)(g o n t k e:Nat)(a:List UInt8)(d:a.length=n)(f:∀i,i<n->W.cell? ⟨g,o+i,none⟩=some (.int .u8 (ep a i)))(l:t+k<=n):(convert 80 9 (.slice (some ⟨g,o+t,none⟩) k e)).run prog W= .ok (.string (bytesOf a t k)) W:=by
 have m:((a.drop t).take k).length=k:=by simp;omega
 rw[iY (P:=prog) W 80 5 fg kP g (o+t) k _ (((a.drop t).take k).map fun b=>(b.toNat:Int)) (by grind) (fun j p=>?_) 9 fi,sC]
 .rfl
 have c:t+j<a.length:=by omega
 have h:((a.drop t).take k)[j]?=some a[t+j]:=by simp_all
 rw[Nat.add_assoc,f (t+j) (by omega)];rw[List.getD,cL,h];simp[ep,List.getD,List.getElem?_eq_getElem c]
theorem OG (w:World)(B:Nat)(a:Option Addr)(n c:Nat)(l:List UInt8)(s:WS)(k:Nat)(W:PR w B a n c l s)(P:k<=40)(v:s.short=true\/1<=n):Calls prog 255 #[.pointer (some ⟨B,0,none⟩),.int .i64 (k:Int)] w fun e w'=>e= .returned (.string (ib l k s).1)/\PR w' B a n c l (ib l k s).2/\iq B w w':=by
 have r:=cb W;obtain⟨p,wr,x⟩:=s;obtain⟨Q,E,L,F,R,d,M,S,H,t,m⟩:=W;simp only at E L F H v;cases wr with
 |true=>
  have e:ib l k ⟨p,true,x⟩=(eY,⟨p,true,x⟩):=by simp[ib]
  rw[e];clear d m t e;go_wp2;go_ret;exact⟨rfl,r.out,iq.refl _ _⟩
 |false=>
  cases x with
  |true=>
   have e:ib l k ⟨p,false,true⟩=(eY,⟨p,false,true⟩):=by simp[ib]
   rw[e];clear d m t e;go_wp2;go_ret;exact⟨rfl,r.out,iq.refl _ _⟩
  |false=>
   have N:1<=n:=by rcases v with h|h;cases h;exact h
   obtain⟨g,o,rfl,_⟩:=m 0 (by omega);have b:∀i,i<n->w.cell? ⟨g,o+i,none⟩=some (.int .u8 (ep l i)):=by
    intro i u;obtain⟨T,U,e,O⟩:=m i u;cases e;exact O
   have y:=t g o rfl;clear m t v;by_cases I:n<p+k
   .have e:ib l k ⟨p,false,false⟩=(eY,⟨p,false,true⟩):=by simp[ib,d,I]
    rw[e];have J:(n:Int)-p<k:=by omega
    have d3:(w.setCell ⟨B,3,none⟩ (.bool true)).cell? ⟨B,3,none⟩=some (.bool true):=fq _ _ _ (by rw[F];rfl);clear d b e;go_wp2;go_region
    go_wp2;go_ret;have f:iq B w ((w.setCell ⟨B,3,none⟩ (.bool true)).drew):=((iq.refl B w).setCell rfl _).drew;refine⟨rfl,r.out.kept f (by go_simp) (by go_simp) (by go_simp) (by go_simp) (fun j=>by go_simp) H,f⟩
   .have e:ib l k ⟨p,false,false⟩=(bytesOf l p k,⟨p+k,false,false⟩):=by
     simp only[ib,d,Bool.or_self,fX,jG];rw[cD I]
    rw[e];have J:¬(n:Int)-p<k:=by omega
    have f:iq B w ((w.setCell ⟨B,1,none⟩ (.int .i64 ((p:Int)+k))).drew.drew):=(((iq.refl B w).setCell rfl _).drew).drew;have d1:(w.setCell ⟨B,1,none⟩ (.int .i64 ((p:Int)+k))).cell? ⟨B,1,none⟩=some (.int .i64 ((p:Int)+k)):=fq _ _ _ (by rw[E];rfl);by_cases z:c=p
    .have A:k=0:=by omega
     have C:n=p:=by omega
     subst A;have K:bytesOf l p 0=eY:=by simp[bytesOf,eY]
     rw[K];have q:=iY (P:=prog) ((w.setCell ⟨B,1,none⟩ (.int .i64 ((p:Int)+(0:Nat)))).drew.drew) 80 5 fg kP g o 0 0 [] rfl (fun i u=>by omega) 9 fi;have D:strOfNums []=eY:=rfl;rw[D]at q;subst z;have HO:=cb f;subst C;simp only[Int.natCast_zero,Int.add_zero]at q d1 J;clear d b e K f;go_wp2;go_region
     go_wp2;go_region
     go_wp2;go_ret;have f:=HO.out;simp only[Int.natCast_zero,Int.add_zero]at f;refine⟨rfl,r.out.kept f (by go_simp) (by go_simp) (by go_simp) (by go_simp) (fun j=>by go_simp) (by show n+0<=n;omega),f⟩
    .have q:=Ee ((w.setCell ⟨B,1,none⟩ (.int .i64 ((p:Int)+k))).drew.drew) g o n p k (c-p) l d (fun i u=>(f.cell (p:=⟨g,o+i,none⟩) y).trans (b i u)) (by omega);have HO:=cb f;clear d b e f;generalize bytesOf l p k=V at*;go_wp2;go_region
     go_wp2;go_region
     go_wp2;go_ret;have f:=HO.out;refine⟨rfl,r.out.kept f (by go_simp) (by go_simp) (by go_simp) (by go_simp) (fun j=>by go_simp) (by show p+k<=n;omega),f⟩
variable {w w' l:World}{a:Option Addr}{n c T B R:Nat}{d:List UInt8}{f:List ByteArray}{s:WS}
structure kx (w:World)(a:Option Addr)(n c:Nat)(bs:List UInt8):Prop where
 len:bs.length=n
 cap:n<=c
 small:n<=1000000000000000
 ag:∀g o,a=some ⟨g,o,none⟩->g<w.heap.size
 Qb:∀i,i<n->∃g o,a=some ⟨g,o,none⟩/\w.cell? ⟨g,o+i,none⟩=some (.int .u8 (ep bs i))
theorem kx.later (h:kx w a n c d)(hb:Below w.heap.size w w'):kx w' a n c d:=
 ⟨h.len,h.cap,h.small,fun g o e=>cH (h.ag g o e) hb.size,fun i b=>by
  obtain⟨g,o,e,f⟩:=h.Qb i b;exact⟨g,o,e,(hb.cell (p:=⟨g,o+i,none⟩) (h.ag g o e)).trans f⟩⟩
theorem kx.Sa (h:kx w a n c d)(k:1<=n):∃g o,a=some ⟨g,o,none⟩/\jZ w g o n c d:=by
 obtain⟨g,o,e,_⟩:=h.Qb 0 (by omega);refine⟨g,o,e,h.ag g o e,h.len,h.cap,h.small,fun i f=>?_⟩;obtain⟨l,m,b,j⟩:=h.Qb i f;rw[e]at b;cases b;exact j
theorem gV.form {d:Nat}{v:Value}{e:List ByteArray}(h:gV w d v e):∃a n c,v= .slice a n c:=by
 rcases h with⟨h,_⟩|⟨b,c,h,_⟩
 .exact⟨_,_,_,h⟩
 .exact⟨_,_,_,h⟩
def xN (w:World)(T:Nat)(f:List ByteArray):Prop:=w.ownsRow 0 9 1 (.slice (some ⟨T,0,none⟩) f.length 5) f.length (f.map Value.string)
theorem xN.other (h:xN w T f)(hb:w'.heap[T]?=w.heap[T]?):xN w' T f:=by
 obtain⟨b,h|⟨g,c,a,e,d,i,j⟩⟩:=h
 .cases h.1
 .cases e;exact⟨b,.inr ⟨T,5,a,rfl,d,hb.trans i,j⟩⟩
theorem xN.lt (h:xN w T f):T<w.heap.size:=by
 obtain⟨d,h|⟨g,a,b,e,i,c,j⟩⟩:=h
 .cases h.1
 .cases e;exact cA c
theorem xN.texts (h:xN w T f):gG w T 5 f:=by
 obtain⟨j,h|⟨g,b,a,e,k,c,l,m,n,o⟩⟩:=h
 .cases h.1
 .cases e;refine⟨a,c,by omega,by omega,fun i x d=>?_⟩;have p:=(cq.1 d).1;have:(a.toList.take (f.length*1))[i]?=some (.string x):=by grind
  rw[dx (by omega)]at this;simpa using this
theorem PR.later (h:PR w B a n c d s)(k:∀b,(∃v,∃i,w.cell? ⟨b,i,none⟩=some v)->w'.heap[b]?=w.heap[b]?):PR w' B a n c d s:=by
 have f:=fun b i v l=>(cS (w:=w) (k b ⟨v,i,l⟩)).trans l
 have m:∀j,w'.frozen? ⟨B,j,none⟩=w.frozen? ⟨B,j,none⟩:=fun j=>gm (w:=w) (k B ⟨_,_,h.c0⟩)
 exact⟨f _ _ _ h.c0,f _ _ _ h.c1,f _ _ _ h.c2,f _ _ _ h.c3,fun j=>(m j).trans (h.fr j),h.len,h.cap,h.small,h.pos,h.gB,fun i p=>by
  obtain⟨g,o,e,q⟩:=h.Qb i p;exact⟨g,o,e,f _ _ _ q⟩⟩
structure LG (w0 w:World)(a:Option Addr)(n c:Nat)(bs:List UInt8)(s:WS)(R B T:Nat)(ts:List ByteArray):Prop where
 W:PR w B a n c bs s
 hR:w.heap[R]?=some (.cells xj 255 (0,0))
 hT:xN w T ts
 jx:Below w0.heap.size w0 w
 h1:w0.heap.size<=R
 h2:R<B
 h3:B<T
 ag:∀g o,a=some ⟨g,o,none⟩->g<w0.heap.size
theorem LG.only {s':WS}(h:LG l w a n c d s R B T f)(k:iq B w w')(b:PR w' B a n c d s'):LG l w' a n c d s' R B T f:=
 ⟨b,(k.block R (by have:=h.h2;omega)).trans h.hR,h.hT.other (k.block T (by have:=h.h3;omega)),h.jx.trans (k.below.mono (by have:=h.h1;have:=h.h2;omega)),h.h1,h.h2,h.h3,h.ag⟩
theorem LG.alloc (h:LG l w a n c d s R B T f)(e:Obj):LG l (w.alloc e) a n c d s R B T f:=
 ⟨h.W.later (fun b ⟨v,i,g⟩=>cC w e b (ey _ _ g)),(cC w e R (cA h.hR)).trans h.hR,h.hT.other (cC w e T h.hT.lt),h.jx.alloc h.jx.size e,h.h1,h.h2,h.h3,h.ag⟩
theorem LG.grown {ts':List ByteArray}(h:LG l w a n c d s R B T f)(p:w.grownBy w' (some T))(t:xN w' T ts'):LG l w' a n c d s R B T ts':=by
 have u:=h.h1;have x:=h.h2;have y:=h.h3;refine⟨?_,(p.block R (cA h.hR) (by simp;omega)).trans h.hR,t,?_,u,x,y,h.ag⟩
 .have q:∀b i v,b≠T->w.cell? ⟨b,i,none⟩=some v->w'.cell? ⟨b,i,none⟩=some v:=fun b i v C r=>(cS (w:=w) (p.block b (ey _ _ r) (by simp;omega))).trans r
  have m:B≠T:=by omega
  exact⟨q _ _ _ m h.W.c0,q _ _ _ m h.W.c1,q _ _ _ m h.W.c2,q _ _ _ m h.W.c3,fun j=>(gm (w:=w) (p.block B (ey _ _ h.W.c0) (by simp;omega))).trans (h.W.fr j),h.W.len,h.W.cap,h.W.small,h.W.pos,h.W.gB,fun i z=>by
   obtain⟨g,o,e,A⟩:=h.W.Qb i z;have:=h.ag g o e;exact⟨g,o,e,q _ _ _ (by omega) A⟩⟩
 .exact h.jx.trans ⟨p.os,p.tape,p.output,p.size,fun k D=>p.block k (by have:=h.jx.size;omega) (by simp;omega)⟩
section
variable (d:List UInt8)(e b:Nat)
theorem GC:∀(f p n:Nat) (a:Bool),n<=b->(eJ d e b f p n a).1<=b:=by
 intro f;induction f with
 |zero=>intro p n a h;exact cG _
 |succ f c=>
  intro p n a h;unfold eJ;split
  .exact h
  .split
   .exact cG _
   .exact c _ _ _ (by omega)
theorem Ai (s:WS):(fC d e b s).1<=b:=by
 unfold fC;split
 .exact cG _
 .exact GC _ _ _ _ _ _ _ (cG _)
end
theorem Fz (d:List UInt8)(k:Nat)(s:WS)(a:k<=40):(ib d k s).1.size<=40:=by
 unfold ib;split
 .exact cG _
 .split
  .exact cG _
  .show((d.drop _).take k).toArray.size<=40;simp;omega
def FW (n:Nat)(s:WS):Prop:=s.short=true\/1<=n
theorem QB {c:UInt8}(h:s.ok d.length):FW d.length (dY d c s):=by
 have:=h.pos;unfold FW dY;by_cases a:1<=d.length
 .exact .inr a
 .left;rw[cN]
  .simp only[WS.look,fA,cX];omega
  .simp only[WS.look,fA,cX];left;omega
theorem Lp (f:List ByteArray)(t:ByteArray):f.map Value.string++[Value.string t]=(f++[t]).map Value.string:=by simp
section
variable (d:List UInt8)(b:Nat)
theorem Eg:∀(f p n:Nat) (a:Bool),(a=false->1<=n)->(eJ d 1 b f p n a).2.fG=false->(eJ d 1 b f p n a).2.short=false->1<=(eJ d 1 b f p n a).1:=by
 intro f;induction f with
 |zero=>intro p n a h c g;cases g
 |succ f i=>
  intro p n a h;unfold eJ;split
  .rename_i e;intro _ _;exact h e.1
  .split
   .intro c;cases c
   .rename_i e j;refine i _ _ _ (fun _=>?_);cases a with
    |true=>
     have k:¬(ep d p-48<1):=fun h=>j (.inr (.inr (.inl ⟨rfl,h⟩)))
     omega
    |false=>have:=h rfl;omega
theorem Ej (s:WS)(a:(fC d 1 b s).2.fG=false)(c:(fC d 1 b s).2.short=false):1<=(fC d 1 b s).1:=by
 unfold fC at a c⊢;split
 .rename_i h;rw[cN h]at a c;simp only[fA]at h;rcases h with h|h
  .rw[h]at c;cases c
  .simp only[WS.look]at a;rw[h]at a;cases a
 .rename_i h;rw[cD h]at a c;exact Eg _ _ _ _ _ _ (fun h=>by cases h) a c
end
theorem ER (a:Option Addr)(n c:Nat)(d:List UInt8)(w:World)(hB:kx w a n c d):Calls prog 251 #[.agg #[],.slice a n c] w fun e w'=>kG w w' (zq d) e/\Below w.heap.size w w':=by
 have T:=cb hB;have r:=cb hB.len;have aI:=hB.small;clear hB;have HX:Hid (zq d=(let t:=fO d (fC d 1 5 (dY d 42 ⟨0,false,false⟩)).1 (fC d 1 5 (dY d 42 ⟨0,false,false⟩)).2 [];if t.2.fG then some ⟨fj fU true,t.2.pos+1,false⟩else if t.2.short then none else some (gE t.1 t.2.pos))):=(show _=_ from rfl)
 generalize zq d=P at*;have EF:=EF;go_enter func251,ntmps251;go_wp2_with fail
 go_at_call 253;have q:∀a b c,Below w.heap.size w (((w.alloc a).alloc b).alloc c):=fun a b c=>((cU.alloc (by simp) _).alloc (by simp;omega) _)
 refine(Bs _ _ a n c d ⟨0,false,false⟩ 42 ⟨by go_simp,by go_simp,by go_simp,by go_simp,fun j=>by go_simp,T.out.len,T.out.cap,T.out.small,cG _,fun g o e=>by have:=T.out.ag g o e;omega,fun i hi=>?_⟩).mono ?_
 .obtain⟨g,o,e,hc⟩:=T.out.Qb i hi;exact⟨g,o,e,((q _ _ _).cell (p:=⟨g,o+i,none⟩) (T.out.ag g o e)).trans hc⟩
 rintro e w1 ⟨rfl,W1,O1⟩;have ab:=O1.size;simp at ab;have ac:w1.heap[w.heap.size+1]?=some (.cells xj 255 (0,0)):=by
  rw[O1.block _ (by omega),cC _ _ _ (by simp)];have:=du (w.alloc (.cells #[] 162)) (.cells xj 255 (0,0));rw[cF]at this;exact this
 have F:Below w.heap.size w w1:=(q _ _ _).trans (O1.below.mono (by omega));have k1:(dY d 42 ⟨0,false,false⟩).ok n:=by rw[<-r.out];exact oK ⟨cG _,fun h=>(by cases h)⟩
 have HL:Hid (FW n (dY d 42 ⟨0,false,false⟩)):=by show FW _ _;rw[<-r.out];exact QB ⟨cG _,fun h=>(by cases h)⟩
 clear O1;generalize dY d 42 ⟨0,false,false⟩=s1 at*;go_wp2_with fail
 go_at_call 254;refine(JJ _ _ a n c d s1 1 5 W1 (by omega) (by omega)).mono ?_;rintro e w2 ⟨rfl,W2,O2⟩;have av:=O2.size;have ad:=(O2.block (w.heap.size+1) (by omega)).trans ac;have y:=F.trans (O2.below.mono (by omega));have k2:(fC d 1 5 s1).2.ok n:=by have:=k1;rw[<-r.out]at this⊢;exact Pz this
 have aw:=Ai d 1 5 s1;have H:=cb (Ej d 5 s1);have ae:n=0->(fC d 1 5 s1).1=0:=by
  intro h0;rcases HL.out with h|h
  .unfold fC;rw[cN (by simp[WS.look,h])]
  .omega
 have I:=cb ae;clear O2 ac W1 F HL ae;generalize hC:fC d 1 5 s1=C at*;obtain⟨N,U⟩:=C;clear hC k1;simp only at W2 k2 aw H HX I;have af:w2.heap.size=w.heap.size+3:=by omega
 have ag:Hid (∃X,fO d N U []=X/\P=(if X.2.fG then some ⟨fj fU true,X.2.pos+1,false⟩else if X.2.short then none else some (gE X.1 X.2.pos))):=⟨_,rfl,HX.out⟩
 clear HX;obtain⟨X,ah,ai⟩:=ag.out;have V:=cb ah;have aj:=cb ai;clear ah ai ag;go_wp2;generalize ak:w2.alloc (Obj.cells #[Value.string {data:=#[]},Value.string {data:=#[]},Value.string {data:=#[]},Value.string {data:=#[]},Value.string {data:=#[]}] 9)=w3;have L3:LG w w3 a n c d U (w.heap.size+1) (w.heap.size+1+1) (w.heap.size+1+1+1) []:=by
  rw[<-ak];have hn:=du w2 (.cells #[.string ⟨#[]⟩,.string ⟨#[]⟩,.string ⟨#[]⟩,.string ⟨#[]⟩,.string ⟨#[]⟩] 9);rw[af]at hn;exact⟨W2.later (fun b ⟨v,i,hv⟩=>cC w2 _ b (ey _ _ hv)),(cC w2 _ _ (by omega)).trans ad,⟨rfl,.inr ⟨_,5,_,rfl,cG _,hn,by simp,by decide,rfl,rfl⟩⟩,y.alloc y.size _,by omega,by omega,by omega,T.out.ag⟩
 have Q:=cb L3;clear ak W2 ad y av af ab L3 q;go_loopw [7,14] (fun J i wr=>∃(j:Nat) (f:List ByteArray) (x:WS),i= .int .i64 j/\J= .slice (some ⟨w.heap.size+1+1+1,0,none⟩) j 5/\j<=N/\Hid (f.length=j/\LG w wr a n c d x (w.heap.size+1) (w.heap.size+1+1) (w.heap.size+1+1+1) f/\fO d (N-j) x f=X/\(∀t∈f,t.size<=40)/\x.ok n)) (fun _ i _=>N-(intOf i).toNat)
 case atStart=>exact⟨0,[],U,rfl,rfl,cG _,rfl,Q.out,V.out,fun _ h=>(by cases h),k2⟩
 case round=>
  obtain⟨j,f,x,rfl,rfl,hj,z⟩:=hrel;by_cases aJ:j<N
  .have ax:1<=n:=by
    rcases nw n with h|h
    .have:=I.out h;omega
    .exact h
   have al:(j:Int)<(N:Int):=by omega
   obtain⟨i9,hi,ay,am,az⟩:=wR;have HI:=cb (cd hi am);clear hi ay am az;have HS:Hid (fO d (N-(j+1)) (mL d x).2 (f++[(mL d x).1])=X):=by
    show _=_;have:=z.out.2.2.1;rw[show N-j=(N-(j+1))+1 by omega]at this;exact this
   have aA:Hid ((mL d x).2.ok n):=by have:=z.out.2.2.2.2;show WS.ok _ _;rw[<-r.out]at this⊢;exact BA this
   have W:Hid (mL d x=(let c:=fC d 0 40 (dY d 36 x);let t:=ib d c.1 c.2;(t.1,dY d 10 t.2))):=(show _=_ from rfl)
   generalize mL d x=ON at*;go_wp2_with fail
   go_at_call 253;refine(Bs _ _ a n c d x 36 z.out.2.1.W).mono ?_;rintro e w4 ⟨rfl,W4,O4⟩;have L4:=cb (z.out.2.1.only O4 W4);clear O4 W4;generalize dY d 36 x=s4 at*;go_wp2_with fail
   go_at_call 254;refine(JJ _ _ a n c d s4 0 40 L4.out.W (by omega) (by omega)).mono ?_;rintro e w5 ⟨rfl,W5,O5⟩;have L5:=cb (L4.out.only O5 W5);have K:=Ai d 0 40 s4;clear O5 W5 L4;generalize fC d 0 40 s4=CC at*;obtain⟨k,s5⟩:=CC;simp only at L5 K W;go_wp2_with fail
   go_at_call 255;refine(OG _ _ a n c d s5 k L5.out.W K (.inr ax)).mono ?_;rintro e w6 ⟨rfl,W6,O6⟩;have L6:=cb (L5.out.only O6 W6);have R:=Fz d k s5 K;clear O6 W6 L5;generalize ib d k s5=TT at*;obtain⟨J,s6⟩:=TT;simp only at L6 R W;have L7:=cb (L6.out.alloc (.cells #[.string J] 9));have an:=cb (show∀(i:Nat) (v:Value),[Value.string J][i]?=some v->(w6.alloc (.cells #[.string J] 9)).cell? ((⟨w6.heap.size,0,none⟩:Addr).add i)=some v from World.news_of_block (cs:=#[.string J]) (du w6 (.cells #[.string J] 9)));have ao:Hid ((w6.alloc (.cells #[.string J] 9)).ownsRow 0 9 1 (.slice (some ⟨w.heap.size+1+1+1,0,none⟩) j 5) j (f.map Value.string)):=by
    have:=L7.out.hT;unfold xN at this;rw[z.out.1]at this;exact this
   go_wp2_with (first
    |(at_builtin;refine wpList_append_fits _ rfl _ _ _ rfl 0 9 i9 1 eO HI.out.1 HI.out.2 (w.heap.size+1+1+1) j 5 (f.map Value.string) rfl ao.out ⟨w6.heap.size,0,none⟩ 1 1 [Value.string J] rfl rfl an.out (fun u hu=>by simp at hu;subst hu;rfl) (by omega) ?_;intro w8 M B;have L8:=cb (L7.out.grown (ts':=f++[J]) B (by unfold xN;rw[<-Lp,cI,z.out.1];exact M));clear M B)
    |fail)
   go_at_call 253;refine(Bs _ _ a n c d s6 10 L8.out.W).mono ?_;rintro e w9 ⟨rfl,W9,O9⟩;have L9:=cb (L8.out.only O9 W9);clear O9 W9 L8 L7 L6 an ao;go_wp2;go_roundw;case rel=>
    have e:=W.out;refine⟨j+1,f++[J],dY d 10 s6,by go_num,rfl,by omega,?_,L9.out,?_,?_,?_⟩
    .rw[cI,z.out.1];rfl
    .have:=HS.out;rw[e]at this;exact this
    .intro t ht;rw[cr,gl]at ht;rcases ht with ht|rfl
     .exact z.out.2.2.2.1 t ht
     .exact R
    .have:=aA.out;rw[e]at this;exact this
   case measure=>simp[intOf];omega
  .have aB:j=N:=by omega
   have al:¬(j:Int)<(N:Int):=by omega
   have hX:X=(f,x):=by
    have:=z.out.2.2.1;rw[show N-j=0 by omega]at this;exact this.symm
   have D:=aj.out;rw[hX]at D;simp only at D;have aC:Hid (x.fG=false->x.short=false->1<=N):=fun hw hs=>by
    have e:=V.out;rw[hX]at e;have ap:=k2;rw[<-r.out]at ap;have e2:(fO d N U []).2=x:=by rw[e]
    have m:=xh [] N U [] ap (by rw[e2];exact hs);refine H.out ?_ m.2;cases hq:U.fG with
    |false=>rfl
    |true=>have:=sg (a:=d) N U [] hq;rw[e2,hw]at this;cases this
   have Y:=cb D;clear D aj V hX;have L:=z.out.2.1;have aD:=z.out.1;obtain⟨p,wg,sh⟩:=x;have c1:=L.W.c1;have c2:=L.W.c2;have c3:=L.W.c3;have hp:=L.W.pos;simp only at c1 c2 c3 hp Y;have S:wr.heap[w.heap.size+1]?=some (.cells xj 255 (0,0)):=L.hR;have aK:=cA S;have E:=L.jx;cases wg with
   |true=>
    have hr:P=some ⟨fj fU true,p+1,false⟩:=Y.out;subst hr;have l:=cb (cd S E);clear S E L z Y Q H I;go_wp2_with fail
    go_at_call 218;refine(jP _ _ _).mono ?_;rintro e w8 ⟨rfl,A⟩;have O:=(A.block _ (cA l.out.1)).trans l.out.1;have aq:=l.out.2.trans (A.mono l.out.2.size);have H8:=cb (cd O aq);have HF:=cb (Qi ⟨#[102,111,114,109]⟩ ((p:Int)+1) w8);clear A O aq c1 c2 c3;unfold eK at*;go_wp2_with fail
    go_at_call 247;refine HF.out.mono ?_;rintro e w9 ⟨rfl,Z⟩;have ar:=(Z.block _ (cA H8.out.1)).trans H8.out.1;have H9:=cb (H8.out.2.trans (Z.mono H8.out.2.size));obtain⟨⟨r0,r1,r2,r3,r4,r5,r6,r7⟩,rf⟩:=gk ar;clear Z ar HF;go_wp2;refine cE (v:=eK 4 (.slice none 0 0) ⟨#[]⟩ ⟨#[102,111,114,109]⟩ true 0 (p+1:Nat) false) (by simp[results,results251,go_sem,eK,r0,r1,r2,r3,r4,r5,r6,r7]) rfl ⟨⟨_,rfl,.inl ⟨rfl,rfl⟩⟩,?_⟩;exact qA H9.out (by omega) _ _ _ _ _ _ _ _
   |false=>
    cases sh with
    |true=>
     have hr:P=none:=Y.out;subst hr;obtain⟨⟨r0,r1,r2,r3,r4,r5,r6,r7⟩,rf⟩:=gk S;have l:=cb (cd S E);clear S E L z Y Q H I;go_wp2;refine cE (v:=kU) (by simp[results,results251,go_sem,kU,r0,r1,r2,r3,r4,r5,r6,r7]) rfl ⟨rfl,?_⟩;exact qA l.out.2 (by omega) _ _ _ _ _ _ _ _
    |false=>
     have hr:P=some (gE f p):=Y.out;subst hr;have aL:1<=N:=aC.out rfl rfl;subst aB;have HT:=cb (zH (w.heap.size+1+1+1) f j p wr aD L.hT.texts (by omega) (by omega) (fun s hs=>by have:=z.out.2.2.2.1 s hs;unfold maxLen;omega));have l:=cb (cd S E);clear S E L z Y Q H I;go_wp2_with fail
     go_at_call 256;refine HT.out.mono ?_;rintro e w8 ⟨aE,A⟩;have O:=(A.block _ (cA l.out.1)).trans l.out.1;have H8:=cb (l.out.2.trans (A.mono l.out.2.size));obtain⟨kv,he,aa⟩:=aE;obtain⟨ka,kn,kc,aF⟩:=aa.form;subst aF;subst he;obtain⟨⟨r0,r1,r2,r3,r4,r5,r6,r7⟩,rf⟩:=gk O;have aG:=cb aa;clear A O HT aa c1 c2 c3;generalize au:gE f p=SR at*;have aH:=cb au;clear au;unfold eK;go_wp2;refine cE (v:=eK SR.c.kind (.slice ka kn kc) SR.c.val SR.c.word SR.c.fatal SR.c.id SR.used SR.skip) (by simp[results,results251,go_sem,eK,r0,r1,r2,r3,r4,r5,r6,r7]) rfl ⟨?_,?_⟩
     .rw[aH.out];refine⟨_,rfl,?_⟩;rcases aG.out with h|⟨b,c',e1,e2,e3⟩
      .exact .inl h
      .have:=l.out.2.size;refine .inr ⟨b,c',e1,by omega,e3.other (oP (by omega) _ _ _ _ _ _ _ _)⟩
     .exact qA H8.out (by omega) _ _ _ _ _ _ _ _
theorem xa (a:ByteArray)(b:Int)(w:World):Calls prog 217 #[eK 4 (.slice none 0 0) ⟨#[]⟩ a false 0 b false] w fun e w'=>e= .returned (eK 4 (.slice none 0 0) ⟨#[]⟩ a false 0 b true)/\Below w.heap.size w w':=by
 unfold eK;go_wp2;refine cE (v:= .agg #[.int .i64 4,.slice none 0 0,.string ⟨#[]⟩,.string a,.bool false,.int .i64 0,.int .i64 b,.bool true]) (by simp[results,results217,go_sem]) rfl ⟨rfl,?_⟩;exact(cU).alloc (by simp) _
theorem Dj (g o n c:Nat)(j:List UInt8)(w:World)(d a:Nat)(p:ByteArray)(k:jZ w g o n c j)(hf:d<=n)(hs:a<=999)(h1:1<=d):Calls prog 223 #[.slice (some ⟨g,o,none⟩) n c,.int .i64 (d:Int),.string p,.int .i64 (a:Int)] w fun e w'=>kG w w' (sE j d p a) e/\Below w.heap.size w w':=by
 have E:=k.len;have aa:=k.small;have U:=k.cap;have ab:=k.lt;unfold sE;by_cases v:40<a
 .rw[cN v];have x:(40:Int)<(a:Int):=by omega
  clear k E;go_enter func223,ntmps223;go_wp2_with fail
  go_at_call 218;refine(jP _ _ _).mono ?_;rintro e C ⟨rfl,f⟩;have u:C.heap[w.heap.size]?=_:=(f.block _ (by simp)).trans (du w _);have D:=cb (((ct w.heap.size w).alloc (PC _) _).trans (f.mono (by simp)));obtain⟨⟨F,H,I,J,K,L,M,N⟩,rf⟩:=gk u;clear f u;unfold eK;go_wp2;refine cE (v:=eK 4 (.slice none 0 0) ⟨#[]⟩ Jx false 0 d false) (by simp[results,results223,go_sem,eK,Jx,F,H,I,J,K,L,M,N]) rfl ⟨⟨_,rfl,.inl ⟨rfl,rfl⟩⟩,?_⟩;exact qA D.out (PC _) _ _ _ _ _ _ _ _
 rw[cD v];have x:¬(40:Int)<(a:Int):=by omega
 by_cases q:j.length<=d+a
 .rw[cN q];have l:(n:Int)<=(d:Int)+(a:Int):=by omega
  clear k E;go_wp2;refine cE (v:=kU) (by simp[results,results223,go_sem,kU]) rfl ⟨rfl,?_⟩;exact cU
 rw[cD q];have l:¬(n:Int)<=(d:Int)+(a:Int):=by omega
 have m:d+a<n:=by omega
 have O:=k.Qb (d+a) m;have r:(d:Int)+(a:Int)<(n:Int):=by omega
 have y:ep j (d+a)=(j.getD (d+a) 0).toNat:=rfl;rw[y]at O;have s:(j.getD (d+a) 0).toNat<256:=eX _;obtain⟨i,z⟩:∃i:Nat,i=d+a:=⟨_,rfl⟩
 have z1:(d:Int)+(a:Int)=(i:Int):=by omega
 have HB:=cb k;have HV:=cb (show∀W,Below w.heap.size w W->∀P,(convert 80 9 (.slice (some ⟨g,o+d,none⟩) (i-d) P)).run prog W= .ok (.string (bytesOf j d a)) W from fun W hW P=>by rw[show i-d=a by omega];exact oU W g o n c d a P j (k.later hW) (by omega));rw[<-z]at O m⊢;clear k E y q l r;have V:¬(n:Int)<=(i:Int):=by omega
 have Q:(i:Int)<(n:Int):=by omega
 have ac:d<=i:=by omega
 have X:(d:Int)<=(i:Int):=by omega
 have ad:i<=c:=by omega
 have ae:¬c=d:=by omega
 clear z;generalize j.getD i 0=b at*;generalize bytesOf j d a=R at*;by_cases S:b=10
 .subst S;rw[cD (by simp)];have A:((10:UInt8).toNat:Int)=10:=rfl;rw[A]at O;clear A s;have af:=HV.out ((w.alloc (.cells #[.int .i64 0,.slice none 0 0,.string ⟨#[]⟩,.string ⟨#[]⟩,.bool false,.int .i64 0,.int .i64 0,.bool false] 255)).alloc (.cells #[.string p] 9)) (cU.alloc (by simp) _) (c-d);go_wp2;refine cE (v:=eK 2 (.slice (some ⟨w.heap.size+1,0,none⟩) 1 1) R ⟨#[]⟩ false 0 (i+1:Nat) false) (by simp[results,results223,go_sem,eK]) rfl ⟨⟨_,rfl,.inr ⟨w.heap.size+1,1,rfl,by omega,RN ?_⟩⟩,?_⟩
  .exact Iv
  .exact BW
 .rw[cN S];have T:((b.toNat:Int)==10)=false:=by
   rw[dW];intro h;apply S;apply nv.1;show b.toNat=10;omega
  have Y:((b.toNat:Int) != 10)=true:=by simp only[bne,T,gK]
  go_enter func223,ntmps223;go_wp2_with fail
  go_at_call 218;refine(jP _ _ _).mono ?_;rintro e C ⟨rfl,f⟩;have u:C.heap[w.heap.size]?=_:=(f.block _ (by simp)).trans (du w _);have D:=cb (((ct w.heap.size w).alloc (PC _) _).trans (f.mono (by simp)));have Z:=cb u;have HP:=cb (xa ⟨#[100,97,116,97]⟩ i C);have hz:=cA u;clear f u;unfold eK at*;go_wp2_with fail
  go_at_call 217;refine HP.out.mono ?_;rintro e w3 ⟨rfl,t⟩;have B:=(t.block _ hz).trans Z.out;have H3:=cb (D.out.trans (t.mono (by omega)));obtain⟨⟨F,H,I,J,K,L,M,N⟩,rf⟩:=gk B;clear t B HP Z D;go_wp2;refine cE (v:=eK 4 (.slice none 0 0) ⟨#[]⟩ iG false 0 i true) (by simp[results,results223,go_sem,eK,iG,F,H,I,J,K,L,M,N]) rfl ⟨⟨_,rfl,.inl ⟨rfl,rfl⟩⟩,?_⟩;exact qA H3.out (PC _) _ _ _ _ _ _ _ _
end Go.Proofs.YtlonjggfnleolaaGreatDoor
namespace Go.Proofs
open Go.Shelf
def Tryz.lays146_ren:Go.Shelf.Ren:=⟨fun|146=>221|221=>226|268=>229|138=>230|143=>231|195=>232|197=>233|218=>234|219=>235|260=>236|217=>237|225=>238|224=>239|267=>240|266=>241|314=>242|n=>n,fun|9=>9|31=>34|3=>3|4=>4|0=>0|105=>314|21=>21|5=>5|46=>79|119=>317|139=>320|138=>319|146=>321|51=>166|n=>n,fun|1=>0|3=>4|4=>5|n=>n⟩
theorem Tryz.lays146:Go.Proofs.Lays.n146 Tryz.prog Tryz.lays146_ren:={
 mixed:=by kernel_rfl
 f138:=Tryz.func230.trans (congrArg some (by kernel_rfl))
 f143:=Tryz.func231.trans (congrArg some (by kernel_rfl))
 f146:=Tryz.func221.trans (congrArg some (by kernel_rfl))
 f195:=Tryz.func232.trans (congrArg some (by kernel_rfl))
 f197:=Tryz.func233.trans (congrArg some (by kernel_rfl))
 f217:=Tryz.func237.trans (congrArg some (by kernel_rfl))
 f218:=Tryz.func234.trans (congrArg some (by kernel_rfl))
 f219:=Tryz.func235.trans (congrArg some (by kernel_rfl))
 f221:=Tryz.func226.trans (congrArg some (by kernel_rfl))
 f224:=Tryz.func239.trans (congrArg some (by kernel_rfl))
 f225:=Tryz.func238.trans (congrArg some (by kernel_rfl))
 f260:=Tryz.func236.trans (congrArg some (by kernel_rfl))
 f266:=Tryz.func241.trans (congrArg some (by kernel_rfl))
 f267:=Tryz.func240.trans (congrArg some (by kernel_rfl))
 f268:=Tryz.func229.trans (congrArg some (by kernel_rfl))
 f314:=Tryz.func242.trans (congrArg some (by kernel_rfl))
 t0:=Tryz.underlying0
 a0:=Tryz.isAgg0
 z0:=Tryz.sizeOf0
 v0:=Tryz.zeroValue0
 t3:=Tryz.underlying3
 a3:=Tryz.isAgg3
 z3:=Tryz.sizeOf3
 v3:=Tryz.zeroValue3
 t4:=Tryz.underlying4
 a4:=Tryz.isAgg4
 z4:=Tryz.sizeOf4
 v4:=Tryz.zeroValue4
 t5:=Tryz.underlying5
 a5:=Tryz.isAgg5
 z5:=Tryz.sizeOf5
 v5:=Tryz.zeroValue5
 t9:=Tryz.underlying9
 a9:=Tryz.isAgg9
 z9:=Tryz.sizeOf9
 v9:=Tryz.zeroValue9
 t21:=Tryz.underlying21
 a21:=Tryz.isAgg21
 z21:=Tryz.sizeOf21
 v21:=Tryz.zeroValue21
 t31:=Tryz.underlying34
 a31:=Tryz.isAgg34
 z31:=Tryz.sizeOf34
 v31:=Tryz.zeroValue34
 t46:=Tryz.underlying79
 a46:=Tryz.isAgg79
 z46:=Tryz.sizeOf79
 v46:=Tryz.zeroValue79
 t51:=Tryz.underlying166
 a51:=Tryz.isAgg166
 z51:=Tryz.sizeOf166
 v51:=Tryz.zeroValue166
 t105:=Tryz.underlying314
 a105:=Tryz.isAgg314
 z105:=Tryz.sizeOf314
 v105:=Tryz.zeroValue314
 t119:=Tryz.underlying317
 a119:=Tryz.isAgg317
 z119:=Tryz.sizeOf317
 t138:=Tryz.underlying319
 a138:=Tryz.isAgg319
 z138:=Tryz.sizeOf319
 v138:=Tryz.zeroValue319
 t139:=Tryz.underlying320
 a139:=Tryz.isAgg320
 z139:=Tryz.sizeOf320
 v139:=Tryz.zeroValue320
 t146:=Tryz.underlying321
 a146:=Tryz.isAgg321
 z146:=Tryz.sizeOf321
 v146:=Tryz.zeroValue321
 g1:=by kernel_rfl
 g3:=by kernel_rfl
 g4:=by kernel_rfl}
def Tryz.lays187_ren:Go.Shelf.Ren:=⟨fun|187=>124|255=>158|n=>n,fun|37=>80|5=>5|3=>3|n=>n,fun|n=>n⟩
theorem Tryz.lays187:Go.Proofs.Lays.n187 Tryz.prog Tryz.lays187_ren:={
 mixed:=by kernel_rfl
 f187:=Tryz.func124.trans (congrArg some (by kernel_rfl))
 f255:=Tryz.func158.trans (congrArg some (by kernel_rfl))
 t3:=Tryz.underlying3
 a3:=Tryz.isAgg3
 z3:=Tryz.sizeOf3
 v3:=Tryz.zeroValue3
 t5:=Tryz.underlying5
 a5:=Tryz.isAgg5
 z5:=Tryz.sizeOf5
 v5:=Tryz.zeroValue5
 t37:=Tryz.underlying80
 a37:=Tryz.isAgg80
 z37:=Tryz.sizeOf80
 v37:=Tryz.zeroValue80}
open Go.RowKit Go.Lib in
theorem Tryz.bytes_IndexByte_at (a:Addr)(n c:Nat)(xs:List Int)(cv:Int)(w:World)(hx:xs.length=n)(hc:∀i,i<n->w.cell? (a.add i)=some (.int .u8 (xs.getD i 0))):
 Calls Tryz.prog 124 #[.slice (some a) n c,.int .u8 cv] w fun e w'=>e= .returned (.int .i64 (Lib.indexByte (Lib.bytesOf xs) cv.toNat.toUInt8))/\w'=w:=Any.bytes_IndexByte_at Tryz.lays187 a n c xs cv w hx hc
theorem Tryz.bytes_IndexByte_nil (cv:Int)(w:World):
 Calls Tryz.prog 124 #[.slice none 0 0,.int .u8 cv] w fun e w'=>e= .returned (.int .i64 (-1))/\w'=w:=Any.bytes_IndexByte_nil Tryz.lays187 cv w
end Go.Proofs
namespace Go.Proofs.YtlonjggfnleolaaGreatDoor
open Go.RowKit Go.Proofs.Tryz
theorem KS:∀(l:List UInt8),Lib.splitK [32] 0 (l.count 32) l=iA l:=by
 intro l;induction l with
 |nil=>rfl
 |cons b l c=>
  by_cases f:b=32
  .subst f;rw[List.count_cons_self,Lib.splitK,Lib.index_one,iA,cN rfl,<-c];have e:Lib.indexByte (32::l) 32=0:=rfl;rfl
  .rw[List.count_cons_of_ne f,iA,cD f,<-c];cases j:l.count 32 with
   |zero=>rfl
   |succ k=>
    rw[Lib.splitK,Lib.splitK,Lib.index_one,Lib.index_one];have m:32∈l:=List.count_pos_iff.1 (by omega);have n:0<=Lib.indexByte l 32:=by
     clear c j;induction l with
     |nil=>cases m
     |cons d l g=>
      unfold Lib.indexByte;by_cases i:(d==32)=true
      .rw[cN i];omega
      .have:32∈l:=by grind
       have:=g this;have a:(Lib.indexByte l 32== -1)=false:=by grind
       simp only[i,a,fX,jG]
       omega
    have h:(b==32)=false:=by grind
    have a:(Lib.indexByte l 32== -1)=false:=by grind
    have e:Lib.indexByte (b::l) 32=Lib.indexByte l 32+1:=by
     conv=>lhs;unfold Lib.indexByte
     simp only[h,a,fX,jG]
    have o:(Lib.indexByte l 32+1== -1)=false:=by grind
    rw[e,o,a];simp only[fX,jG]
    have p:(Lib.indexByte l 32+1).toNat=(Lib.indexByte l 32).toNat+1:=by omega
    rw[p];simp only[im,List.take_succ_cons,dc,fk,eB,iN]
theorem Qv (s:ByteArray):Lib.splitB ⟨#[32]⟩ 0 (Lib.countB s ⟨#[32]⟩) s=eP s.data.toList:=by
 have a:=Lib.splitB_data ⟨#[32]⟩ 0 (Lib.countB s ⟨#[32]⟩) s;have b:Lib.countB s ⟨#[32]⟩=s.data.toList.count 32:=Lib.count_one 32 s.data.toList;have c:Lib.splitK [32] 0 (Lib.countB s ⟨#[32]⟩) s.data.toList=iA s.data.toList:=by rw[b];exact KS _
 have d:=a.trans c;unfold eP;rw[<-d,PK];conv=>lhs;rw[<-List.map_id (Lib.splitB _ _ _ _)]
 apply kF;simp[PJ]
theorem Pr:(prog.info? (Tryz.lays146_ren.t 9)).map (fun i=>(i.zero,i.size,i.bytes))=some (some (.string ByteArray.empty),1,16):=by kernel_rfl
theorem wC (s:ByteArray)(w:World)(b:s.size<4294967281):Calls prog 221 #[.string s,.string ⟨#[32]⟩] w fun e w'=>e= .returned (.slice (some ⟨w.heap.size,0,none⟩) (eP s.data.toList).length (eP s.data.toList).length)/\w'=w.alloc (.cells ((eP s.data.toList).map Value.string).toArray 9):=by
 have d:=Lib.countB_le ⟨#[32]⟩ (by decide) s.size s (PC _);have a:=Lib.splitB_all ⟨#[32]⟩ (by decide) 0 _ s rfl;have c:=Any.strings_genSplit_core {Tryz.lays146 with} Pr s ⟨#[32]⟩ 0 (-1) (Lib.countB s ⟨#[32]⟩+1) w b (by decide) (by decide)
  (fun x c h=>by
   have:=Any.strings_Index_one {Tryz.lays146 with} x 32 (w.alloc (.cells c (Tryz.lays146_ren.t 9)));have e:=(Lib.index_one x.data.toList 32).symm;rw[e]at this;exact this)
  (by
   have:=Any.strings_Count_one {Tryz.lays146 with} s 32 w;have e:Lib.countByte s.data.toList 32=Lib.countB s ⟨#[32]⟩:=(Lib.count_one 32 s.data.toList).symm;rw[e]at this;exact this)
  (by decide) (by decide) (by grind)
 rw[Nat.add_sub_cancel,a]at c;have f:Lib.cellsOf (Lib.splitB ⟨#[32]⟩ 0 (Lib.countB s ⟨#[32]⟩) s) (Lib.countB s ⟨#[32]⟩+1)=((Lib.splitB ⟨#[32]⟩ 0 (Lib.countB s ⟨#[32]⟩) s).map Value.string).toArray:=by rw[<-a];exact Lib.cellsOf_full _
 rw[f,<-a,Qv]at c;have g:=cb (show Calls prog 226 #[.string s,.string ⟨#[32]⟩,.int .i64 0,.int .i64 (-1)] w fun e w'=>e= .returned (.slice (some ⟨w.heap.size,0,none⟩) (eP s.data.toList).length (eP s.data.toList).length)/\w'=w.alloc (.cells ((eP s.data.toList).map Value.string).toArray 9)from c);go_enter func221,ntmps221;go_wp2_with (refine g.out.mono ?_;rintro e w' ⟨rfl,rfl⟩)
 go_ret;exact⟨rfl,rfl⟩
section
variable (l:List UInt8)
theorem IV:iA l≠[]:=by
 induction l with
 |nil=>simp[iA]
 |cons b l a=>
  rw[iA];split
  .simp
  .split<;>simp
theorem Fg:(iA l).length<=l.length+1:=by
 induction l with
 |nil=>simp[iA]
 |cons b l a=>
  rw[iA];split
  .simp;omega
  .split
   .rename_i h t e;rw[e]at a;simp at a⊢;omega
   .simp
theorem sd:∀x∈iA l,x.length<=l.length:=by
 induction l with
 |nil=>simp[iA]
 |cons b l c=>
  intro x a;rw[iA]at a;split at a
  .rcases cQ.1 a with h|h
   .rw[h];simp
   .have:=c x h;simp;omega
  .split at a
   .rename_i h t e;rw[e]at c;rcases cQ.1 a with h'|h'
    .rw[h'];have:=c h (by simp);simp;omega
    .have:=c x (by simp[h']);simp;omega
   .simp at a;rw[a];simp
end
theorem GD {s:ByteArray}{k:Nat}(h:om s=some k):k<=999:=by
 unfold om at h;split at h
 .cases h
 .split at h
  .rename_i a;cases h;have:=tL _ a;have b:s.data.toList.length<=3:=by simp;omega
   have c:10 ^ s.data.toList.length<=10 ^ 3:=mg (by decide) b;omega
  .cases h
theorem gV.Sm {w:World}{d:Nat}{v:Value}{e:List ByteArray}(h:gV w d v e):∃a n c,v= .slice a n c:=by
 rcases h with⟨h,_⟩|⟨b,c,h,_⟩
 .exact⟨_,_,_,h⟩
 .exact⟨_,_,_,h⟩
structure zZ (w W:World)(C:Nat)(k:Int)(kv:Value)(ks:List ByteArray):Prop where
 hC:W.heap[C]?=some (.cells #[.int .i64 k,kv,.string ⟨#[]⟩,.string ⟨#[]⟩,.bool false,.int .i64 0] 36 (0,0))
 hR:W.heap[w.heap.size]?=some (.cells #[.int .i64 0,.slice none 0 0,.string ⟨#[]⟩,.string ⟨#[]⟩,.bool false,.int .i64 0,.int .i64 0,.bool false] 255 (0,0))
 lC:w.heap.size<C
 key:(kv= .slice none 0 0/\ks=[])\/∃b c,kv= .slice (some ⟨b,0,none⟩) ks.length c/\w.heap.size<b/\gG W b c ks
 jx:Below w.heap.size w W
theorem Eb (a:List UInt8)(e:Nat)(h:e<=a.length):(bytesOf a 0 e).data.toList=a.take e:=by simp[bytesOf]
theorem BI (g o n c:Nat)(f:List UInt8)(w:World)(e d:Nat)(N:jZ w g o n c f)(O:e<n)(ab:e<=60)(a:iZ (eP (f.take e))=some d):Calls prog 216 #[.slice (some ⟨g,o,none⟩) n c,.int .i64 (e:Int)] w fun r w'=>kG w w' (sE f (e+1) ((eP (f.take e)).getD 1 eY) d) r/\Below w.heap.size w w':=by
 have hl:=N.len;have Y:=N.cap;have P:=Eb f e (by omega);have B:=cb (fun W=>wC (bytesOf f 0 e) W (by show((f.drop 0).take e).toArray.size<4294967281;simp;omega));have C:=oU (w.alloc (.cells #[.int .i64 0,.slice none 0 0,.string ⟨#[]⟩,.string ⟨#[]⟩,.bool false,.int .i64 0,.int .i64 0,.bool false] 255)) g o n c 0 e c f (N.later cU) (by omega);rw[im]at C;rw[P]at B;have Q:(eP (f.take e)).length=3:=by
  unfold iZ at a;split at a
  .rename_i h;exact h.1
  .cases a
 have q:∀s∈eP (f.take e),s.size<=60:=by
  intro s j;obtain⟨x,hx,rfl⟩:=dA.1 j;have:=sd _ x hx;show x.toArray.size<=60;simp at this⊢;omega
 have t:d<=999:=by
  unfold iZ at a;split at a
  .exact GD a
  .cases a
 have HB:=cb N;generalize bytesOf f 0 e=Z at*;generalize eP (f.take e)=ws at*;match ws,Q,a,q,B with
 | [x,y,z],_,a,q,B=>
  have S:=cb a;have hy:(60:Nat)<=maxLen:=by unfold maxLen;omega
  have D:=fun s j=>cP (q s j) hy
  have ht:List.take e f=List.take e f:=rfl;simp only[dc,fk,eu,iI]at B;have ac:e<=c:=by omega
  have aa:(e:Int)<=(c:Int):=by omega
  show Calls _ _ _ _ fun r w'=>kG w w' (sE f (e+1) y d) r/\Below w.heap.size w w'
  obtain⟨T,m⟩:∃R,sE f (e+1) y d=R:=⟨_,rfl⟩
  have E:=cb m;rw[m];go_enter func216,ntmps216;go_wp2_with fail
  refine(B.out _).mono ?_;rintro r F ⟨rfl,l⟩;have k:F.heap[w.heap.size+1]?=some (.cells #[.string x,.string y,.string z] 9 (0,0)):=by
   rw[l];have:=du (w.alloc (.cells #[.int .i64 0,.slice none 0 0,.string ⟨#[]⟩,.string ⟨#[]⟩,.bool false,.int .i64 0,.int .i64 0,.bool false] 255)) (.cells #[.string x,.string y,.string z] 9);rw[cF]at this;exact this
  have H:F.heap[w.heap.size]?=some (.cells #[.int .i64 0,.slice none 0 0,.string ⟨#[]⟩,.string ⟨#[]⟩,.bool false,.int .i64 0,.int .i64 0,.bool false] 255 (0,0)):=by
   rw[l];exact(cC _ _ _ (by simp)).trans (du w _)
  have p:Below w.heap.size w F:=by rw[l];exact(cU).alloc (by simp) _
  have I:=cA k;have u:=cb (tC [x,y,z] (w.heap.size+1) 0 3 F (fun i s j=>by
   rw[eB,cn k i];match i,j with
   |0,j=>simp at j;subst j;rfl
   |1,j=>simp at j;subst j;rfl
   |2,j=>simp at j;subst j;rfl) I (by simp) (by show 3<=maxLen;decide) D)
  have cy:=cn k 1;have A:=cb (cd H p);clear l k H p C;rw[S.out]at u;have J:=cb (Dj g o n c f F (e+1) d y (HB.out.later A.out.2) (by omega) t (by omega));rw[E.out]at J;simp only[dc,fk,eB,Nat.reduceAdd]at u;go_wp2_with (first
   |(refine u.out.mono ?_;rintro r w' ⟨rfl,rfl⟩;unfold GA;dsimp only[Option.getD_some,Option.isSome_some])
   |fail)
  refine J.out.mono ?_;rintro r w3 ⟨K,L⟩;have U:=(L.block _ (cA A.out.1)).trans A.out.1;have H3:=cb (A.out.2.trans (L.mono A.out.2.size));obtain⟨⟨r0,r1,r2,r3,r4,r5,r6,r7⟩,rf⟩:=gk U;cases T with
  |none=>
   have O:=K;subst O;unfold kU;go_wp2;refine cE (v:=kU) (by simp[results,results216,go_sem,kU,r0,r1,r2,r3,r4,r5,r6,r7]) rfl ⟨rfl,?_⟩;exact qA H3.out (PC _) _ _ _ _ _ _ _ _
  |some v=>
   obtain⟨kv,O,M⟩:=K;obtain⟨ka,kn,kc,V⟩:=M.Sm;subst V;subst O;have X:=cb M;unfold eK;go_wp2;refine cE (v:=eK v.c.kind (.slice ka kn kc) v.c.val v.c.word v.c.fatal v.c.id v.used v.skip) (by simp[results,results216,go_sem,eK,r0,r1,r2,r3,r4,r5,r6,r7]) rfl ⟨⟨_,rfl,?_⟩,?_⟩
   .rcases X.out with h|⟨b,c',e1,e2,e3⟩
    .exact .inl h
    .have:=A.out.2.size;refine .inr ⟨b,c',e1,by omega,e3.other (oP (by omega) _ _ _ _ _ _ _ _)⟩
   .exact qA H3.out (PC _) _ _ _ _ _ _ _ _
variable {w a l:World}{g m d:Nat}{k:Int}{f:List ByteArray}
theorem Da {w':World}{base:Nat}{b:List Value}(h:w.ownsRow base 9 1 (.slice (some ⟨g,0,none⟩) m d) m b)(hb:w'.heap[g]?=w.heap[g]?):w'.ownsRow base 9 1 (.slice (some ⟨g,0,none⟩) m d) m b:=by
 obtain⟨f,h|⟨l,c,a,e,i,j,k⟩⟩:=h
 .cases h.1
 .cases e;exact⟨f,.inr ⟨g,d,a,rfl,i,hb.trans j,k⟩⟩
theorem Az {W:World}{C:Nat}(c:a.heap[w.heap.size]?=some (.cells #[.int .i64 0,.slice none 0 0,.string ⟨#[]⟩,.string ⟨#[]⟩,.bool false,.int .i64 0,.int .i64 0,.bool false] 255 (0,0)))(b:Below w.heap.size w a)(i:Below a.heap.size a W)(j:f.length=m)(h:0<m)(e:W.ownsRow a.heap.size 9 1 (.slice (some ⟨g,0,none⟩) m d) m (f.map Value.string))(l:W.heap[C]?=some (.cells #[.int .i64 k,.slice (some ⟨g,0,none⟩) m d,.string ⟨#[]⟩,.string ⟨#[]⟩,.bool false,.int .i64 0] 36 (0,0)))(n:a.heap.size<=C):zZ w W C k (.slice (some ⟨g,0,none⟩) m d) f:=by
 obtain⟨o,q⟩:=ll j h e;have p:=cA c;refine⟨l,(i.block _ p).trans c,by omega,.inr ⟨g,d,by rw[j],by omega,o⟩,b.trans (i.mono b.size)⟩
theorem RY (e:a.heap[w.heap.size]?=some (.cells #[.int .i64 0,.slice none 0 0,.string ⟨#[]⟩,.string ⟨#[]⟩,.bool false,.int .i64 0,.int .i64 0,.bool false] 255 (0,0)))(c:Below w.heap.size w a)(h:Below a.heap.size a l)(n:f.length=m)(i:0<m)(j:g<l.heap.size)(b:l.ownsRow a.heap.size 9 1 (.slice (some ⟨g,0,none⟩) (0+m) d) (0+m) ([]++f.map Value.string)):zZ w (l.alloc (.cells #[.int .i64 k,.slice (some ⟨g,0,none⟩) m d,.string ⟨#[]⟩,.string ⟨#[]⟩,.bool false,.int .i64 0] 36)) l.heap.size k (.slice (some ⟨g,0,none⟩) m d) f:=by
 rw[eB,fI]at b;exact Az e c (h.alloc h.size _) n i (Da b (cC _ _ _ j)) (du _ _) h.size
theorem Ma (h:a.heap[w.heap.size]?=some (.cells #[.int .i64 0,.slice none 0 0,.string ⟨#[]⟩,.string ⟨#[]⟩,.bool false,.int .i64 0,.int .i64 0,.bool false] 255 (0,0)))(e:Below w.heap.size w a)(j:Below (a.alloc (.cells #[.int .i64 0,.slice none 0 0,.string ⟨#[]⟩,.string ⟨#[]⟩,.bool false,.int .i64 0] 36)).heap.size (a.alloc (.cells #[.int .i64 0,.slice none 0 0,.string ⟨#[]⟩,.string ⟨#[]⟩,.bool false,.int .i64 0] 36)) l)(n:f.length=m)(i:0<m)(r:g=a.heap.size+1)(c:l.ownsRow a.heap.size 9 1 (.slice (some ⟨g,0,none⟩) (0+m) d) (0+m) ([]++f.map Value.string)):zZ w ((((((l.setCell ⟨a.heap.size,0,none⟩ (.int .i64 k)).setCell ⟨a.heap.size,1,none⟩ (.slice (some ⟨g,0,none⟩) m d)).setCell ⟨a.heap.size,2,none⟩ (.string ⟨#[]⟩)).setCell ⟨a.heap.size,3,none⟩ (.string ⟨#[]⟩)).setCell ⟨a.heap.size,4,none⟩ (.bool false)).setCell ⟨a.heap.size,5,none⟩ (.int .i64 0)) a.heap.size k (.slice (some ⟨g,0,none⟩) m d) f:=by
 rw[eB,fI]at c;have b:g≠a.heap.size:=by omega
 have o:=(j.block a.heap.size (by simp)).trans (du a _);have p:=(cU).trans (j.mono (by simp));have q:=dh (i:=5) (dh (i:=4) (dh (i:=3) (dh (i:=2) (dh (i:=1) (dh (i:=0) o (.int .i64 k)) (.slice (some ⟨g,0,none⟩) m d)) (.string ⟨#[]⟩)) (.string ⟨#[]⟩)) (.bool false)) (.int .i64 0);refine Az h e (((((((p.setCell (p:=⟨a.heap.size,0,none⟩) (PC _) _).setCell (p:=⟨a.heap.size,1,none⟩) (PC _) _).setCell (p:=⟨a.heap.size,2,none⟩) (PC _) _).setCell (p:=⟨a.heap.size,3,none⟩) (PC _) _).setCell (p:=⟨a.heap.size,4,none⟩) (PC _) _).setCell (p:=⟨a.heap.size,5,none⟩) (PC _) _)) n i (Da c ?_) (q.trans rfl) (PC _)
 rw[cz _ ⟨a.heap.size,5,none⟩ _ _ b,cz _ ⟨a.heap.size,4,none⟩ _ _ b,cz _ ⟨a.heap.size,3,none⟩ _ _ b,cz _ ⟨a.heap.size,2,none⟩ _ _ b,cz _ ⟨a.heap.size,1,none⟩ _ _ b,cz _ ⟨a.heap.size,0,none⟩ _ _ b]
theorem BG (g o n c:Nat)(M:List UInt8)(w:World)(e m:Nat)(x:ByteArray)(f:List ByteArray)(E:iC)(hB:jZ w g o n c M)(he:e<n)(aF:e<=60)(O:eP (M.take e)=x::f)(ad:iZ (x::f)=none)(hm:f.length=m)(aG:1<=m)(F:E=if gj x=2\/fp (gj x) f eY=false then⟨fj fU false,e+1,false⟩else⟨⟨gj x,f,eY,eY,false,0⟩,e+1,false⟩):Calls prog 216 #[.slice (some ⟨g,o,none⟩) n c,.int .i64 (e:Int)] w fun r w'=>kG w w' (some E) r/\Below w.heap.size w w':=by
 have hl:=hB.len;have aA:=hB.cap;have ae:=Eb M e (by omega);have HS:=cb (fun W=>wC (bytesOf M 0 e) W (by show((M.drop 0).take e).toArray.size<4294967281;simp;omega));have af:=oU (w.alloc (.cells #[.int .i64 0,.slice none 0 0,.string ⟨#[]⟩,.string ⟨#[]⟩,.bool false,.int .i64 0,.int .i64 0,.bool false] 255)) g o n c 0 e c M (hB.later cU) (by omega);rw[im]at af;rw[ae,O]at HS;have ag:∀s∈x::f,s.size<=60:=by
  rw[<-O];intro s Z;obtain⟨x,hx,rfl⟩:=dA.1 Z;have:=sd _ x hx;show x.toArray.size<=60;simp at this⊢;omega
 have aB:m<=60:=by
  have h1:(eP (M.take e)).length=m+1:=by rw[O,dc,hm]
  have h2:(eP (M.take e)).length<=e+1:=by
   unfold eP;rw[dp];have:=Fg (M.take e);simp at this;omega
  omega
 have aa:(x::f).length=m+1:=by rw[dc,hm]
 rw[aa]at HS;have hy:(60:Nat)<=maxLen:=by unfold maxLen;omega
 have T:∀s∈x::f,s.size<=maxLen:=fun s Z=>cP (ag s Z) hy
 have U:=cb T;have au:=cb ad;have P:=cb (cd hm aa);clear hB ae hl O ag T ad hm aa;generalize bytesOf M 0 e=aC at*;have aH:e<=c:=by omega
 have aD:(e:Int)<=(c:Int):=by omega
 have av:=F;have p:=cb F;clear F av;obtain⟨i9,hi,ah,B,ai⟩:=wR;have HI:=cb (cd hi (cd ah (cd B ai)));clear hi ah B ai;have HO:Hid (∀u∈f.map Value.string,u.oneCell'=true):=fun u hu=>by
  obtain⟨s,_,rfl⟩:=dA.1 hu;rfl
 go_enter func216,ntmps216;go_wp2_with fail
 go_at_call 221;refine(HS.out _).mono ?_;rintro r a ⟨rfl,Q⟩;have H:a.heap[w.heap.size+1]?=some (.cells ((x::f).map Value.string).toArray 9 (0,0)):=by
  rw[Q];have:=du (w.alloc (.cells #[.int .i64 0,.slice none 0 0,.string ⟨#[]⟩,.string ⟨#[]⟩,.bool false,.int .i64 0,.int .i64 0,.bool false] 255)) (.cells ((x::f).map Value.string).toArray 9);rw[cF]at this;exact this
 have aj:a.heap[w.heap.size]?=some (.cells #[.int .i64 0,.slice none 0 0,.string ⟨#[]⟩,.string ⟨#[]⟩,.bool false,.int .i64 0,.int .i64 0,.bool false] 255 (0,0)):=by
  rw[Q];exact(cC _ _ _ (by simp)).trans (du w _)
 have V:Below w.heap.size w a:=by rw[Q];exact(cU).alloc (by simp) _
 have X:=cA H;have q:∀(i:Nat) (s:ByteArray),(x::f)[i]?=some s->a.cell? ⟨w.heap.size+1,0+i,none⟩=some (.string s):=fun i s Z=>by
  rw[eB,cn H i,eQ,cL,Z];rfl
 have ab:=cb (tC (x::f) (w.heap.size+1) 0 (m+1) a q X (by rw[P.out.2];omega) (by rw[P.out.2];unfold maxLen;omega) U.out);rw[P.out.2,au.out]at ab;have cx:a.cell? ⟨w.heap.size+1,0,none⟩=some (.string x):=q 0 x rfl;have HN:Hid (∀W,Below a.heap.size a W->∀(j:Nat) (v:Value),(f.map Value.string)[j]?=some v->W.cell? ((⟨w.heap.size+1,1,none⟩:Addr).add j)=some v):=fun W hW j v hv=>by
  have ak:(⟨w.heap.size+1,1,none⟩:Addr).add j=⟨w.heap.size+1,1+j,none⟩:=by unfold Addr.add;split<;>simp_all
  rw[cL]at hv;cases hj:f[j]?with
  |none=>rw[hj]at hv;cases hv
  |some s=>
   rw[hj]at hv;cases hv;rw[ak];have:=q (j+1) s (by simpa using hj);rw[eB,Nat.add_comm j 1]at this;exact(hW.cell (p:=⟨w.heap.size+1,1+j,none⟩) X).trans this
 have HK:=cb (cd aj V);clear Q H aj V af q;generalize al:gj x=k at*;have HX:=cb (show∀W:World,Calls prog 224 #[.string x] W fun e w'=>e= .returned (.int .i64 k)/\w'=W from fun W=>by rw[<-al];exact lh x W);clear al;have m1:¬m+1=1:=by omega
 have m2:(1:Int)<=(m:Int)+1:=by omega
 have m3:(0:Int)<(m:Int)+1:=by omega
 go_wp2_with (first
  |(go_at_call 222;refine ab.out.mono ?_;rintro r w' ⟨rfl,aw⟩;subst aw;unfold GA;dsimp only[Option.getD_none,Option.isSome_none])
  |fail)
 clear ab HS;have aI:¬w'.heap.size=w.heap.size+1:=by omega
 go_cut [8]from 28 (fun s8 W=>∃C g d,s8= .pointer (some ⟨C,0,none⟩)/\zZ w W C k (.slice (some ⟨g,0,none⟩) m d) f)
 case first=>
  go_region_held3 (fun W=>W.cell? ⟨w.heap.size+1,0,none⟩=some (.string x)) (go_keep)
   (first
    |(go_at_call 224;refine(HX.out _).mono ?_;rintro r w2 ⟨rfl,ax⟩;subst ax)
    |(refine step_append_lies _ (by rfl) _ _ _ (by rfl) w'.heap.size 9 i9 (.string ⟨#[]⟩) 1 16 eO HI.out.1 HI.out.2.1 HI.out.2.2.1 HI.out.2.2.2 (by rfl) (by omega) (.slice none 0 0) 0 [] (by rfl) (dv _ _ _ _) ⟨w.heap.size+1,1,none⟩ m m (f.map Value.string) (by rfl) (by rw[dp,P.out.1];omega) (HN.out _ BW) HO.out (by omega) (by unfold maxLen;omega) (by omega) (by simp;try omega) _ rfl ?_;intro gg d l Y t am an;have hS:=t.cell_far ⟨w.heap.size+1,0,none⟩ (by simp;try omega) (by simp[Value.ownBlock]);have D:=cb (cd Y (cd (kY t) am));obtain⟨aJ,aK⟩:=Jv (kY t);clear Y t am))
  all_goals go_wp2_with fail
  .go_meet
   case rel=>exact⟨_,gg,d,rfl,RY HK.out.1 HK.out.2 ⟨D.out.2.1.os,D.out.2.1.tape,D.out.2.1.output,D.out.2.1.size,D.out.2.1.block⟩ P.out.1 (by omega) an D.out.1⟩
  all_goals
   go_meet
   case rel=>
    refine⟨_,gg,d,rfl,Ma HK.out.1 HK.out.2 ⟨D.out.2.1.os,D.out.2.1.tape,D.out.2.1.output,D.out.2.1.size,D.out.2.1.block⟩ P.out.1 (by omega) ?_ D.out.1⟩;rcases D.out.2.2 with h|h
    .cases h
    .simpa using h
 case rest=>
  obtain⟨C,gg,d,rfl,L⟩:=hcut;have ao:=L.key;have N:=cb L;obtain⟨⟨r0,r1,r2,r3,r4,r5,r6,r7⟩,rf⟩:=gk L.hR;obtain⟨⟨k0,k1,k2,k3,k4,k5⟩,kf⟩:=gf L.hC;have B:=cA L.hR;have ay:=cA L.hC;have ac:gG wc gg d f/\w.heap.size<gg:=by
   rcases ao with⟨h,_⟩|⟨b,c',h,az,hT⟩
   .cases h
   .cases h;exact⟨hT,az⟩
  have hS:=uK ac.1 (by rw[P.out.1];omega) (fun s Z=>U.out s (by simp[Z]));rw[P.out.1]at hS;have z:=cb (mI k _ f ⟨#[]⟩ ⟨#[]⟩ false 0 wc hS (by decide));have ap:=cb ac;clear L ao ac hS HK HN HO HI HX;unfold db at z;by_cases I:k=2
  .subst I;have hr:E=⟨fj fU false,e+1,false⟩:=by rw[p.out,cN (.inl rfl)]
   subst hr;clear p z;go_wp2_with fail
   go_at_call 218;refine(jP _ _ _).mono ?_;rintro r w4 ⟨rfl,A⟩;have J:=(A.block _ B).trans N.out.hR;have H4:=cb (N.out.jx.trans (A.mono N.out.jx.size));obtain⟨⟨s0,s1,s2,s3,s4,s5,s6,s7⟩,sf⟩:=gk J;clear A J r0 r1 r2 r3 r4 r5 r6 r7 rf k0 k1 k2 k3 k4 k5 kf;unfold eK;go_wp2;refine cE (v:=eK 4 (.slice none 0 0) ⟨#[]⟩ fU false 0 (e+1:Nat) false) (by simp[results,results216,go_sem,eK,fU,s0,s1,s2,s3,s4,s5,s6,s7]) rfl ⟨⟨_,rfl,.inl ⟨rfl,rfl⟩⟩,?_⟩;exact qA H4.out (PC _) _ _ _ _ _ _ _ _
  .have aE:(k==2)=false:=by simpa using I
   have R:Hid (fp k f eY=fp k f ⟨#[]⟩):=(show _=_ from rfl)
   cases S:fp k f ⟨#[]⟩with
   |false=>
    have hr:E=⟨fj fU false,e+1,false⟩:=by rw[p.out,cN (.inr (by rw[R.out];exact S))]
    subst hr;rw[S]at z;clear p I R;go_wp2_with fail
    go_at_call 48;refine z.out.mono ?_;rintro r w3 ⟨rfl,y⟩;have K:=(y.block _ B).trans N.out.hR;have H3:=cb (cd K (N.out.jx.trans (y.mono N.out.jx.size)));clear y K r0 r1 r2 r3 r4 r5 r6 r7 rf k0 k1 k2 k3 k4 k5 kf z;go_wp2_with fail
    go_at_call 218;refine(jP _ _ _).mono ?_;rintro r w4 ⟨rfl,A⟩;have J:=(A.block _ (cA H3.out.1)).trans H3.out.1;have H4:=cb (H3.out.2.trans (A.mono H3.out.2.size));obtain⟨⟨s0,s1,s2,s3,s4,s5,s6,s7⟩,sf⟩:=gk J;clear A J;unfold eK;go_wp2;refine cE (v:=eK 4 (.slice none 0 0) ⟨#[]⟩ fU false 0 (e+1:Nat) false) (by simp[results,results216,go_sem,eK,fU,s0,s1,s2,s3,s4,s5,s6,s7]) rfl ⟨⟨_,rfl,.inl ⟨rfl,rfl⟩⟩,?_⟩;exact qA H4.out (PC _) _ _ _ _ _ _ _ _
   |true=>
    have hr:E=⟨⟨k,f,eY,eY,false,0⟩,e+1,false⟩:=by
     rw[p.out,cD];rintro (h|h)
     .exact I h
     .rw[R.out,S]at h;cases h
    subst hr;rw[S]at z;clear p I R;go_wp2_with fail
    go_at_call 48;refine z.out.mono ?_;rintro r w3 ⟨rfl,y⟩;have K:=(y.block _ B).trans N.out.hR;have aq:=(y.block _ ay).trans N.out.hC;have ar:=ap.out.1.later y;have H3:=cb (cd ar (N.out.jx.trans (y.mono N.out.jx.size)));clear r0 r1 r2 r3 r4 r5 r6 r7 rf k0 k1 k2 k3 k4 k5 kf z;obtain⟨⟨r0,r1,r2,r3,r4,r5,r6,r7⟩,rf⟩:=gk K;obtain⟨⟨k0,k1,k2,k3,k4,k5⟩,kf⟩:=gf aq;have hg:=ap.out.2;clear y K aq ar;go_wp2;refine cE (v:=eK k (.slice (some ⟨gg,0,none⟩) m d) ⟨#[]⟩ ⟨#[]⟩ false 0 (e+1:Nat) false) (by simp[results,results216,go_sem,eK,r0,r1,r2,r3,r4,r5,r6,r7]) rfl ⟨⟨_,rfl,.inr ⟨gg,d,by rw[P.out.1],by omega,H3.out.1.other ?_⟩⟩,?_⟩
    .exact oP (by omega) _ _ _ _ _ _ _ _
    .exact qA H3.out.2 (PC _) _ _ _ _ _ _ _ _
theorem Mb {w b:World}{k:Int}(c:b.heap[w.heap.size]?=some (.cells #[.int .i64 0,.slice none 0 0,.string ⟨#[]⟩,.string ⟨#[]⟩,.bool false,.int .i64 0,.int .i64 0,.bool false] 255 (0,0)))(a:Below w.heap.size w b):zZ w (b.alloc (.cells #[.int .i64 k,.slice none 0 0,.string ⟨#[]⟩,.string ⟨#[]⟩,.bool false,.int .i64 0] 36)).drew b.heap.size k (.slice none 0 0) []:=by
 have l:=cA c;exact⟨du b _,(cC _ _ _ l).trans c,l,.inl ⟨rfl,rfl⟩,(a.alloc a.size _).drew⟩
theorem BH (g o n c:Nat)(q:List UInt8)(w:World)(e:Nat)(x:ByteArray)(Q:jZ w g o n c q)(he:e<n)(ae:e<=60)(t:eP (q.take e)=[x])(B:iZ [x]=none):Calls prog 216 #[.slice (some ⟨g,o,none⟩) n c,.int .i64 (e:Int)] w fun r w'=>kG w w' (some ⟨fj fU false,e+1,false⟩) r/\Below w.heap.size w w':=by
 have hl:=Q.len;have aa:=Q.cap;have D:=Eb q e (by omega);have R:=cb (fun W=>wC (bytesOf q 0 e) W (by show((q.drop 0).take e).toArray.size<4294967281;simp;omega));have E:=oU (w.alloc (.cells #[.int .i64 0,.slice none 0 0,.string ⟨#[]⟩,.string ⟨#[]⟩,.bool false,.int .i64 0,.int .i64 0,.bool false] 255)) g o n c 0 e c q (Q.later cU) (by omega);rw[im]at E;rw[D,t]at R;have F:∀s∈[x],s.size<=60:=by
  rw[<-t];intro s H;obtain⟨x,hx,rfl⟩:=dA.1 H;have:=sd _ x hx;show x.toArray.size<=60;simp at this⊢;omega
 have j: [x].length=1:=rfl;rw[j]at R;have hy:(60:Nat)<=maxLen:=by unfold maxLen;omega
 have m:∀s∈[x],s.size<=maxLen:=fun s H=>cP (F s H) hy
 have I:=cb m;have T:=cb B;have HM:=cb (cd j j);clear Q D hl t F m B j;generalize bytesOf q 0 e=ab at*;have af:e<=c:=by omega
 have ac:(e:Int)<=(c:Int):=by omega
 go_enter func216,ntmps216;go_wp2_with fail
 go_at_call 221;refine(R.out _).mono ?_;rintro r z ⟨rfl,l⟩;have d:z.heap[w.heap.size+1]?=some (.cells (([x]).map Value.string).toArray 9 (0,0)):=by
  rw[l];have:=du (w.alloc (.cells #[.int .i64 0,.slice none 0 0,.string ⟨#[]⟩,.string ⟨#[]⟩,.bool false,.int .i64 0,.int .i64 0,.bool false] 255)) (.cells (([x]).map Value.string).toArray 9);rw[cF]at this;exact this
 have J:z.heap[w.heap.size]?=some (.cells #[.int .i64 0,.slice none 0 0,.string ⟨#[]⟩,.string ⟨#[]⟩,.bool false,.int .i64 0,.int .i64 0,.bool false] 255 (0,0)):=by
  rw[l];exact(cC _ _ _ (by simp)).trans (du w _)
 have p:Below w.heap.size w z:=by rw[l];exact(cU).alloc (by simp) _
 have K:=cA d;have a:∀(i:Nat) (s:ByteArray),([x])[i]?=some s->z.cell? ⟨w.heap.size+1,0+i,none⟩=some (.string s):=fun i s H=>by
  rw[eB,cn d i,eQ,cL,H];rfl
 have u:=cb (tC ([x]) (w.heap.size+1) 0 1 z a K (by simp) (by show 1<=maxLen;decide) I.out);rw[HM.out.2,T.out]at u;have cx:z.cell? ⟨w.heap.size+1,0,none⟩=some (.string x):=a 0 x rfl;have U:=cb (cd J p);clear l d J p E a;generalize M:gj x=k at*;have HX:=cb (show∀W:World,Calls prog 224 #[.string x] W fun e w'=>e= .returned (.int .i64 k)/\w'=W from fun W=>by rw[<-M];exact lh x W);clear M;go_wp2_with (first
  |(go_at_call 222;refine u.out.mono ?_;rintro r w' ⟨rfl,V⟩;subst V;unfold GA;dsimp only[Option.getD_none,Option.isSome_none])
  |fail)
 clear u R;go_cut [8]from 28 (fun s8 W=>∃C,s8= .pointer (some ⟨C,0,none⟩)/\zZ w W C k (.slice none 0 0) [])
 case first=>
  go_region_held3 (fun W=>W.cell? ⟨w.heap.size+1,0,none⟩=some (.string x)) (go_keep)
   (first
    |(go_at_call 224;refine(HX.out _).mono ?_;rintro r w2 ⟨rfl,X⟩;subst X)
    |fail)
  all_goals go_wp2_with fail
  all_goals(go_meet;case rel=>exact⟨_,rfl,Mb U.out.1 U.out.2⟩)
 case rest=>
  obtain⟨C,rfl,L⟩:=hcut;have A:=cb L;obtain⟨⟨r0,r1,r2,r3,r4,r5,r6,r7⟩,rf⟩:=gk L.hR;obtain⟨⟨k0,k1,k2,k3,k4,k5⟩,kf⟩:=gf L.hC;have N:=cA L.hR;have O:fp k [] ⟨#[]⟩=false:=by simp[fp,gR,eF]
  have f:=cb (mI k (.slice none 0 0) [] ⟨#[]⟩ ⟨#[]⟩ false 0 wc ⟨.inr ⟨none,rfl,rfl⟩,by simp,by simp⟩ (by decide));rw[O]at f;clear L U HX O;unfold db at f;by_cases v:k=2
  .subst v;clear f;go_wp2_with fail
   go_at_call 218;refine(jP _ _ _).mono ?_;rintro r w4 ⟨rfl,b⟩;have h:=(b.block _ N).trans A.out.hR;have Y:=cb (A.out.jx.trans (b.mono A.out.jx.size));obtain⟨⟨Z,s1,s2,s3,s4,s5,s6,s7⟩,sf⟩:=gk h;clear b h r0 r1 r2 r3 r4 r5 r6 r7 rf k0 k1 k2 k3 k4 k5 kf;unfold eK;go_wp2;refine cE (v:=eK 4 (.slice none 0 0) ⟨#[]⟩ fU false 0 (e+1:Nat) false) (by simp[results,results216,go_sem,eK,fU,Z,s1,s2,s3,s4,s5,s6,s7]) rfl ⟨⟨_,rfl,.inl ⟨rfl,rfl⟩⟩,?_⟩;exact qA Y.out (PC _) _ _ _ _ _ _ _ _
  .have ad:(k==2)=false:=by simpa using v
   clear v;go_wp2_with fail
   go_at_call 48;refine f.out.mono ?_;rintro r w3 ⟨rfl,y⟩;have P:=(y.block _ N).trans A.out.hR;have S:=cb (cd P (A.out.jx.trans (y.mono A.out.jx.size)));clear y P r0 r1 r2 r3 r4 r5 r6 r7 rf k0 k1 k2 k3 k4 k5 kf f;go_wp2_with fail
   go_at_call 218;refine(jP _ _ _).mono ?_;rintro r w4 ⟨rfl,b⟩;have h:=(b.block _ (cA S.out.1)).trans S.out.1;have Y:=cb (S.out.2.trans (b.mono S.out.2.size));obtain⟨⟨Z,s1,s2,s3,s4,s5,s6,s7⟩,sf⟩:=gk h;clear b h;unfold eK;go_wp2;refine cE (v:=eK 4 (.slice none 0 0) ⟨#[]⟩ fU false 0 (e+1:Nat) false) (by simp[results,results216,go_sem,eK,fU,Z,s1,s2,s3,s4,s5,s6,s7]) rfl ⟨⟨_,rfl,.inl ⟨rfl,rfl⟩⟩,?_⟩;exact qA Y.out (PC _) _ _ _ _ _ _ _ _
theorem CW (l:List UInt8):Lib.bytesOf (l.map fun b=>(b.toNat:Int))=l:=by
 unfold Lib.bytesOf;rw[PK];conv=>rhs;rw[<-List.map_id l]
 apply kF;simp
theorem BF (g o n c:Nat)(d:List UInt8)(w:World)(e:Nat)(s:jZ w g o n c d)(t:e<n)(j:e<=60):Calls prog 216 #[.slice (some ⟨g,o,none⟩) n c,.int .i64 (e:Int)] w fun r w'=>kG w w' (ph d e) r/\Below w.heap.size w w':=by
 unfold ph;cases q:iZ (eP (d.take e))with
 |some m=>exact BI g o n c d w e m s t j q
 |none=>
  obtain⟨x,i,k⟩:∃x i,eP (d.take e)=x::i:=by
   cases h:eP (d.take e)with
   |nil=>exact absurd (List.map_eq_nil_iff.1 h) (IV _)
   |cons x i=>exact⟨x,i,rfl⟩
  rw[k]at q⊢;have v:(x::i).getD 0 eY=x:=rfl;have z:(x::i).drop 1=i:=rfl;rw[v,z];have A:∀{u B:Type} (p:Prop) [Decidable p] (f:u->B) (a b:u),(if p then f a else f b)=f (if p then a else b):=by grind
  rw[A];cases i with
  |nil=>
   have C:gj x=2\/fp (gj x) [] eY=false:= .inr (by simp[fp,gR,eF]);rw[cN C];exact BH g o n c d w e x s t j k q
  |cons y l=>exact BG g o n c d w e (y::l).length x (y::l) _ s t j k q rfl (by simp) rfl
theorem EP (a:Option Addr)(n c:Nat)(d:List UInt8)(w:World)(u:kx w a n c d)(q:a=none->c=0):Calls prog 211 #[.agg #[],.slice a n c] w fun r w'=>kG w w' (vO d) r/\Below w.heap.size w w':=by
 have hl:=u.len;have aj:=u.small;have ah:=u.cap;have HB:=cb u;have Q:Hid (vO d=if 0<=Go.Lib.indexByte (d.take 61) 10 then ph d (Go.Lib.indexByte (d.take 61) 10).toNat else if 60<n then some ⟨fj vk false,61,true⟩else none):=by show _=_;unfold vO;rw[hl]
 obtain⟨k,C⟩:∃k:Nat,k=min n 61:=⟨_,rfl⟩
 have s:(d.take 61).length=k:=by rw[fh,hl,C];omega
 have B:Hid (∀W,Below w.heap.size w W->∀R,(a=none->R=0)->Calls prog 124 #[.slice a k R,.int .u8 10] W fun e w'=>e= .returned (.int .i64 (Go.Lib.indexByte (d.take 61) 10))/\w'=W):=fun W hW R aa=>by
  cases D:a with
  |none=>
   have E:n=0:=by
    rcases nw n with h|h
    .exact h
    .obtain⟨g,o,e,_⟩:=u.Qb 0 h;rw[D]at e;cases e
   have ab:k=0:=by omega
   have ac:d=[]:=dw.1 (by omega);rw[ab,aa D,ac];exact Tryz.bytes_IndexByte_nil 10 W
  |some ad=>
   have:=Tryz.bytes_IndexByte_at ad k R ((d.take 61).map fun b=>(b.toNat:Int)) 10 W (by rw[dp,s]) (fun i hi=>by
    obtain⟨g,o,e,hc⟩:=(u.later hW).Qb i (by omega);rw[D]at e;cases e;have F:(⟨g,o,none⟩:Addr).add i=⟨g,o+i,none⟩:=by unfold Addr.add;split<;>simp_all
    rw[F,hc];have H:i<d.length:=by omega
    have e2:(d.take 61)[i]?=some d[i]:=by rw[dx (by omega),cp H]
    rw[List.getD,cL,e2];simp[ep,List.getD,List.getElem?_eq_getElem H])
   rw[CW]at this;exact this
 have ak:=Go.Lib.indexByte_ge (d.take 61) 10;generalize vO d=v at*;have HX:Hid (0<=Go.Lib.indexByte (d.take 61) 10->(Go.Lib.indexByte (d.take 61) 10).toNat<k):=fun h=>by have:=(jh (d.take 61) [] 10 h).2.1;omega
 generalize Go.Lib.indexByte (d.take 61) 10=S at*;have j:=PE w;have al:k<=n:=by omega
 have am:k<=c:=by omega
 clear s;have t:k=(min (n:Int) 61).toNat:=by omega
 rw[t]at B;have ai:k<=61:=by omega
 clear C u hl t;by_cases E:0<=S
 .obtain⟨e,rfl⟩:∃e:Nat,S=(e:Int):=⟨S.toNat,by omega⟩
  have ae:=HX.out E;rw[Int.toNat_natCast]at ae;have I:v=ph d e:=by rw[Q.out,cN E,Int.toNat_natCast]
  subst I;obtain⟨g,o,D,J⟩:=HB.out.Sa (by omega);subst D;have HL:=cb (fun W (hW:Below w.heap.size w W)=>BF g o _ c d W e (J.later hW) (by omega) (by omega));generalize K:ph d e=LR at*;have an:=cb K;clear K J HX Q;go_enter func211,ntmps211;go_wp2_with (first
   |(go_at_call 124;refine(B.out _ (j.out _ _) _ (fun h=>by cases h)).mono ?_;rintro r w1 ⟨rfl,l⟩;subst l)
   |fail)
  go_at_call 216;refine(HL.out _ (j.out _ _)).mono ?_;rintro r w3 ⟨L,f⟩;obtain⟨_,m⟩:=tH f;have T:=cb ((j.out _ _).trans (f.mono (by simp;omega)));obtain⟨⟨U,V,X,Y,Z,r5,r6,r7⟩,rf⟩:=gk m;have M:=f.size;simp only[cF]at M;clear f m HL B;cases LR with
  |none=>
   have he:r= .returned kU:=L;subst he;unfold kU;go_wp2;refine cE (v:=kU) (by simp[results,results211,go_sem,kU,U,V,X,Y,Z,r5,r6,r7]) rfl ⟨rfl,?_⟩;exact qA T.out (by omega) _ _ _ _ _ _ _ _
  |some x=>
   obtain⟨kv,he,y⟩:=L;obtain⟨ka,kn,kc,af⟩:=y.form;subst af;subst he;have ag:=cb y;clear y;unfold eK;go_wp2;refine cE (v:=eK x.c.kind (.slice ka kn kc) x.c.val x.c.word x.c.fatal x.c.id x.used x.skip) (by simp[results,results211,go_sem,eK,U,V,X,Y,Z,r5,r6,r7]) rfl ⟨⟨_,rfl,?_⟩,?_⟩
   .rcases ag.out with h|⟨b,c',e1,e2,e3⟩
    .exact .inl h
    .simp only[cF]at e2;refine .inr ⟨b,c',e1,by omega,e3.other (oP (by omega) _ _ _ _ _ _ _ _)⟩
   .exact qA T.out (by omega) _ _ _ _ _ _ _ _
 .have ao:¬(0:Int)<=S:=E;have z:=Q.out;rw[cD E]at z;have p:=cb z;clear Q z HX;by_cases N:60<n
  .have O:(60:Int)<(n:Int):=by omega
   have I:v=some ⟨fj vk false,61,true⟩:=by rw[p.out,cN N]
   subst I;clear p;go_enter func211,ntmps211;go_wp2_with (first
    |(go_at_call 124;refine(B.out _ (j.out _ _) _ q).mono ?_;rintro r w1 ⟨rfl,l⟩;subst l)
    |fail)
   go_at_call 218;refine(jP _ _ _).mono ?_;rintro r w2 ⟨rfl,A⟩;obtain⟨_,hR⟩:=tH A;have H2:=cb ((j.out _ _).trans (A.mono (by simp;omega)));have P:=cb hR;have HP:=cb (xa ⟨#[108,111,110,103]⟩ 61 w2);have hz:=cA hR;clear A hR B;unfold eK at*;go_wp2_with fail
   go_at_call 217;refine HP.out.mono ?_;rintro r w3 ⟨rfl,f⟩;have m:=(f.block _ hz).trans P.out;have T:=cb (H2.out.trans (f.mono (by omega)));obtain⟨⟨U,V,X,Y,Z,r5,r6,r7⟩,rf⟩:=gk m;clear f m HP P H2;go_wp2;refine cE (v:=eK 4 (.slice none 0 0) ⟨#[]⟩ vk false 0 61 true) (by simp[results,results211,go_sem,eK,vk,U,V,X,Y,Z,r5,r6,r7]) rfl ⟨⟨_,rfl,.inl ⟨rfl,rfl⟩⟩,?_⟩;exact qA T.out (by omega) _ _ _ _ _ _ _ _
  .have O:¬(60:Int)<(n:Int):=by omega
   have I:v=none:=by rw[p.out,cD N]
   subst I;clear p;go_enter func211,ntmps211;go_wp2_with (first
    |(go_at_call 124;refine(B.out _ (j.out _ _) _ q).mono ?_;rintro r w1 ⟨rfl,l⟩;subst l)
    |fail)
   refine cE (v:=kU) (by simp[results,results211,go_sem,kU]) rfl ⟨rfl,?_⟩;exact BW
variable {l:List UInt8}{w:World}{v:Value}{u:Nat}{hb:Option Nat}
def Ad (l:List UInt8):List Value:=l.map fun b=> .int .u8 (b.toNat:Int)
theorem xB (l:List UInt8):(Ad l).length=l.length:=by simp[Ad]
theorem FI (l m:List UInt8):Ad (l++m)=Ad l++Ad m:=by simp[Ad]
theorem Bk {i:Nat}(h:i<l.length):(Ad l)[i]?=some (.int .u8 (ep l i)):=by
 simp[Ad,ep,List.getD,List.getElem?_eq_getElem h]
theorem FJ (l:List UInt8):∀u∈Ad l,u.oneCell'=true:=by
 intro u a;obtain⟨b,_,rfl⟩:=dA.1 a;rfl
def BE (t:Nat)(v:Value)(u:Nat)(a b:Bool):Obj:= .cells #[.iface t (.agg #[]),v,.int .i64 (u:Int),.bool a,.bool b] 134 (0,0)
structure qT (w:World)(v:Value)(u:Nat)(hb:Option Nat)(l:List UInt8):Prop where
 ex:∃all:List UInt8,w.ownsRow 0 5 1 v all.length (Ad all)/\u<=all.length/\l=all.drop u/\all.length<=140737488355328
 eC:v.ownBlock=hb
theorem qT.other {w':World}(h:qT w v u hb l)(k:∀b,hb=some b->w'.heap[b]?=w.heap[b]?):qT w' v u hb l:=by
 obtain⟨⟨c,⟨j,d⟩,m⟩,a⟩:=h;refine⟨⟨c,⟨j,?_⟩,m⟩,a⟩;rcases d with d|⟨g,f,i,e,n,o,p⟩
 .exact .inl d
 .subst e;exact .inr ⟨g,f,i,rfl,n,(k g a.symm).trans o,p⟩
theorem qT.lt (h:qT w v u hb l):∀b,hb=some b->b<w.heap.size:=by
 obtain⟨⟨d,⟨m,f⟩,n⟩,a⟩:=h;intro b c;rcases f with⟨rfl,_⟩|⟨g,i,j,e,o,k,p⟩
 .rw[c]at a;cases a
 .subst e;rw[c]at a;cases a;exact cA k
theorem qT.form (h:qT w v u hb l):(v= .slice none 0 0/\u=0/\l=[]/\hb=none)\/∃g n c a,v= .slice (some ⟨g,0,none⟩) n c/\hb=some g/\g<w.heap.size/\a.length=n/\n<=c/\u<=n/\l=a.drop u/\n<=140737488355328/\∀i,i<n->w.cell? ⟨g,i,none⟩=some (.int .u8 (ep a i)):=by
 obtain⟨⟨a,⟨y,o⟩,p,k,q⟩,b⟩:=h;rcases o with⟨rfl,r⟩|⟨g,d,f,e,z,m,s,A,t,j⟩
 .left;have:=dw.1 r;subst this;refine⟨rfl,by grind,by rw[k];simp,b.symm⟩
 .right;subst e;refine⟨g,a.length,d,a,rfl,b.symm,cA m,rfl,s,p,k,q,fun i x=>?_⟩;rw[cn m i];have:(f.toList.take (a.length*1))[i]?=some (.int .u8 (ep a i)):=by rw[j];exact Bk x
  rw[dx (by omega)]at this;simpa using this
section
variable (D u:Nat)(v:Value)(hb:Option Nat)(l:List UInt8)(w:World)
theorem xD (H:qT w v u hb l)(d1:w.cell? ⟨D,1,none⟩=some v)(d2:w.cell? ⟨D,2,none⟩=some (.int .i64 (u:Int))):Calls prog 74 #[.pointer (some ⟨D,1,none⟩)] w fun e w'=>e= .returned (.int .i64 (l.length:Int))/\∃q,w'=w.drewN q:=by
 rcases H.form with⟨rfl,rfl,rfl,_⟩|⟨g,n,c,a,rfl,_,_,b,d,i,rfl,f,_⟩
 .go_wp2;go_quiet (fail)
  go_wp2;go_ret;exact⟨rfl,_,rfl⟩
 .have h:Hid ((a.drop u).length=n-u):=by show _=_;rw[fR,b]
  go_wp2;go_quiet (fail)
  go_wp2;go_ret;refine⟨?_,_,rfl⟩;rw[h.out];exact pY (by omega)
theorem tI (H:qT w v u hb l)(d1:w.cell? ⟨D,1,none⟩=some v)(d2:w.cell? ⟨D,2,none⟩=some (.int .i64 (u:Int))):Calls prog 125 #[.pointer (some ⟨D,1,none⟩)] w fun e w'=>(∃a c,e= .returned (.slice a l.length c)/\kx w a l.length c l/\(a=none->c=0)/\(∀g o,a=some ⟨g,o,none⟩->hb=some g))/\∃q,w'=w.drewN q:=by
 rcases H.form with⟨rfl,rfl,rfl,_⟩|⟨g,n,c,k,rfl,f,s,x,y,F,rfl,z,d⟩
 .go_wp2;go_quiet (fail)
  go_wp2;go_ret;exact⟨⟨none,0,rfl,⟨rfl,PC _,by simp,fun g o e=>(by cases e),fun i j=>(by cases j)⟩,fun _=>rfl,fun g o e=>(by cases e)⟩,_,rfl⟩
 .have b:Hid ((k.drop u).length=n-u):=by show _=_;rw[fR,x]
  have A:=cb d;have B:(u:Int)<=(n:Int):=by omega
  have C:(u:Int)<=(c:Int):=by omega
  have t:u<=c:=by omega
  by_cases E:c=u
  .subst E;have m:n=c:=by omega
   subst m;go_wp2;go_quiet (fail)
   go_wp2;go_ret;refine⟨⟨some ⟨g,0,none⟩,0,?_,⟨rfl,?_,?_,fun p r e=>?_,fun i j=>?_⟩,fun h=>(by cases h),fun p r e=>(by cases e;exact f)⟩,_,rfl⟩
   .rw[b.out];simp
   .rw[b.out];omega
   .rw[b.out];omega
   .cases e;exact s
   .rw[b.out]at j;omega
  .go_wp2;go_quiet (fail)
   go_wp2;go_ret;refine⟨⟨some ⟨g,u,none⟩,c-u,?_,⟨rfl,?_,?_,fun p r e=>?_,fun i j=>?_⟩,fun h=>(by cases h),fun p r e=>(by cases e;exact f)⟩,_,rfl⟩
   .rw[b.out];congr 2<;>first|omega|simp
   .rw[b.out];omega
   .rw[b.out];omega
   .cases e;exact s
   .rw[b.out]at j;refine⟨g,u,rfl,?_⟩;rw[A.out (u+i) (by omega)];simp[ep,List.getD]
end
variable {D:Nat}{hb:Option Nat}{w w' a b:World}
structure PD (w:World)(D:Nat)(hb:Option Nat)(t:Nat)(s:St):Prop where
 ex:∃v u,w.heap[D]?=some (BE t v u s.pass s.closed)/\qT w v u hb s.held/\(u=0\/u<s.held.length)
 ne:hb≠some D
structure iV (D:Nat)(hb:Option Nat)(w w':World):Prop where
 os:w'.os=w.os
 tape:w'.tape=w.tape
 output:w'.output=w.output
 size:w.heap.size<=w'.heap.size
 block:∀k,k<w.heap.size->k≠D->some k≠hb->w'.heap[k]?=w.heap[k]?
theorem iV.refl (D:Nat)(hb:Option Nat)(w:World):iV D hb w w:=⟨rfl,rfl,rfl,PC _,fun _ _ _ _=>rfl⟩
theorem iV.pU (h:ie D w w'):iV D hb w w':=⟨h.os,h.tape,h.output,h.size,fun k a b _=>h.block k a b⟩
theorem iV.dP (h:Below w.heap.size w w'):iV D hb w w':=⟨h.os,h.tape,h.output,h.size,fun k a _ _=>h.block k a⟩
def lN (w:World)(hb a:Option Nat):Prop:=a=hb\/a=none\/∃k,a=some k/\w.heap.size<=k
theorem iV.trans {d:Option Nat}{c:World}(h:iV D hb a b)(k:iV D d b c)(f:lN a hb d):iV D hb a c:=
 ⟨k.os.trans h.os,k.tape.trans h.tape,k.output.trans h.output,cP h.size k.size,fun i e g l=>(k.block i (cH e h.size) g (by
  rcases f with rfl|rfl|⟨j,rfl,m⟩
  .exact l
  .simp
  .simp;omega)).trans (h.block i e g l)⟩
theorem lN.trans {c d e:Option Nat}(f:lN a c d)(g:lN b d e)(h:a.heap.size<=b.heap.size):lN a c e:=by
 rcases g with rfl|rfl|⟨j,rfl,i⟩
 .exact f
 .exact .inr (.inl rfl)
 .exact .inr (.inr ⟨j,rfl,by omega⟩)
structure mP (w w':World)(D:Nat)(hb:Option Nat)(t:Nat)(s:St):Prop where
 ex:∃hb',PD w' D hb' t s/\lN w hb hb'
 turn:iV D hb w w'
theorem FV:∃i,prog.info? 5=some i/\i.zero=some (.int .u8 0)/\i.size=1/\i.bytes=1:=by
 have h:(prog.info? 5).map (fun i=>(i.zero,i.size,i.bytes))=some (some (.int .u8 0),1,1):=by kernel_rfl
 cases a:prog.info? 5 with
 |none=>rw[a]at h;cases h
 |some i=>
  rw[a]at h;simp only[gP,iJ,gi]at h;exact⟨i,rfl,h.1,h.2.1,h.2.2⟩
theorem ou {t u:Nat}{v:Value}{a b:Bool}(h:w.heap[D]?=some (BE t v u a b)):
 w.cell? ⟨D,0,none⟩=some (.iface t (.agg #[]))/\w.cell? ⟨D,1,none⟩=some v/\w.cell? ⟨D,2,none⟩=some (.int .i64 (u:Int))/\w.cell? ⟨D,3,none⟩=some (.bool a)/\w.cell? ⟨D,4,none⟩=some (.bool b)/\(∀j,w.frozen? ⟨D,j,none⟩=false):=
 ⟨cn h 0,cn h 1,cn h 2,cn h 3,cn h 4,dN h⟩
theorem Cb (D t k:Nat)(hb:Option Nat)(s:St)(w:World)(R:PD w D hb t s)(hk:k<=s.held.length):Calls prog 126 #[.pointer (some ⟨D,1,none⟩),.int .i64 (k:Int)] w fun e w'=>e= .returned (.tuple #[])/\mP w w' D hb t ⟨s.held.drop k,s.pass,s.closed⟩:=by
 obtain⟨⟨v,u,O,H,_⟩,P⟩:=R;obtain⟨d,ps,cl⟩:=s;simp only at O H hk;obtain⟨d0,d1,d2,d3,d4,df⟩:=ou O;have Q:=cA O;have H1:qT (w.setCell ⟨D,2,none⟩ (.int .i64 ((u:Int)+k))) v (u+k) hb (d.drop k):=by
  obtain⟨⟨i,h1,h2,N,h4⟩,C⟩:=H;have hl:d.length=i.length-u:=by rw[N];simp
  have:qT w v (u+k) hb (d.drop k):=⟨⟨i,h1,by omega,by rw[N,qg],h4⟩,C⟩
  exact this.other (fun b E=>cz w ⟨D,2,none⟩ _ b (by intro e;apply P;rw[E,e]))
 have au:u+k<=140737488355328:=by
  obtain⟨⟨i,h1,h2,N,h4⟩,C⟩:=H;have hl:d.length=i.length-u:=by rw[N];simp
  omega
 have S:=dh (i:=2) O (.int .i64 ((u:Int)+k));have F:(w.setCell ⟨D,2,none⟩ (.int .i64 ((u:Int)+k))).cell? ⟨D,1,none⟩=some v:=by go_simp
 have ai:(w.setCell ⟨D,2,none⟩ (.int .i64 ((u:Int)+k))).cell? ⟨D,2,none⟩=some (.int .i64 ((u:Int)+k)):=fq _ _ _ (by rw[d2];rfl);have T:ie D w (w.setCell ⟨D,2,none⟩ (.int .i64 ((u:Int)+k))):=(ie.refl D w).setCell 2 _;have aq:(d.drop k).length<=140737488355328:=by
  obtain⟨⟨i,h1,h2,N,h4⟩,C⟩:=H1;rw[N];simp;omega
 have l:=cb (cd H1 (cd S T));clear H H1 S T O;have p:(w.setCell ⟨D,2,none⟩ (.int .i64 ((u:Int)+k))).cell? ⟨D,2,none⟩=some (.int .i64 ((u+k:Nat):Int)):=ai;have m:=cb (fun q=>xD D (u+k) v hb (d.drop k) ((w.setCell ⟨D,2,none⟩ (.int .i64 ((u:Int)+k))).drewN q) (l.out.1.other (fun _ _=>rfl)) F p);have n:=cb (xD D (u+k) v hb (d.drop k) (w.setCell ⟨D,2,none⟩ (.int .i64 ((u:Int)+k))) l.out.1 F p);have r:=cb (fun q=>tI D (u+k) v hb (d.drop k) ((w.setCell ⟨D,2,none⟩ (.int .i64 ((u:Int)+k))).drewN q) (l.out.1.other (fun _ _=>rfl)) F p);clear p;by_cases av:(d.drop k).length<=u+k
 .have U:((d.drop k).length:Int)<=(u:Int)+k:=by omega
  generalize hL:d.drop k=L at*;have aw:=cb hL;clear hL;go_wp2;go_quiet ((go_at_call 74;exact Calls.quiet_of (m.out _)))
  go_wp2_with fail
  go_at_call 125;refine(r.out _).mono ?_;rintro e w2 ⟨⟨a,c,rfl,V,z,_⟩,q,rfl⟩;have aj:=cb V;have W:=cb z;clear V z;by_cases I:L=[]
  .subst I;have X:∀J,mP w ((((w.setCell ⟨D,2,none⟩ (.int .i64 ((u:Int)+k))).drewN J).setCell ⟨D,1,none⟩ (.slice none 0 0)).setCell ⟨D,2,none⟩ (.int .i64 0)) D hb t ⟨[],ps,cl⟩:=by
    intro J;refine⟨⟨none,⟨⟨.slice none 0 0,0,?_,⟨⟨[],dv _ _ _ _,PC _,rfl,by simp⟩,rfl⟩,.inl rfl⟩,by simp⟩,.inr (.inl rfl)⟩,.pU (((l.out.2.2.drewN J).setCell 1 _).setCell 2 _)⟩;have ak:((w.setCell ⟨D,2,none⟩ (.int .i64 ((u:Int)+k))).drewN J).heap[D]?=_:=l.out.2.1;exact(dh (i:=2) (dh (i:=1) ak (.slice none 0 0)) (.int .i64 0)).trans rfl
   cases a with
   |none=>
    have al:c=0:=W.out rfl;subst al;clear m r n;go_wp2;go_end0;exact⟨rfl,X _⟩
   |some ad=>
    clear m r n;go_wp2;go_end0;exact⟨rfl,X _⟩
  .have K:1<=L.length:=by cases L with|nil=>exact absurd rfl I|cons=>simp
   clear I;obtain⟨g,o,rfl,Y⟩:=aj.out.Sa K;obtain⟨i5,hi,Z,aa,ab⟩:=FV;have HI:=cb (cd hi (cd Z (cd aa ab)));clear hi Z aa ab;have am:Hid (∀J (j:Nat) (x:Value),(Ad L)[j]?=some x->((w.setCell ⟨D,2,none⟩ (.int .i64 ((u:Int)+k))).drewN J).cell? ((⟨g,o,none⟩:Addr).add j)=some x):=fun J j x hx=>by
    have ac:(⟨g,o,none⟩:Addr).add j=⟨g,o+j,none⟩:=by unfold Addr.add;split<;>simp_all
    have hj:j<L.length:=by have:=(cq.1 hx).1;rw[xB]at this;exact this
    rw[Bk hj]at hx;cases hx;rw[ac];exact Y.Qb j hj
   have an:=cb (xB L);generalize ae:L.length=nL at*;have A:=cb ae;clear ae m r n Y;go_wp2_with (first
    |(at_builtin;refine wpList_append_lies _ rfl _ _ _ rfl 0 5 i5 (.int .u8 0) 1 1 fg HI.out.1 HI.out.2.1 HI.out.2.2.1 HI.out.2.2.2 rfl (by omega) (.slice none 0 0) 0 [] rfl (dv _ _ _ _) ⟨g,o,none⟩ nL c (Ad L) rfl (by rw[an.out];omega) (am.out _) (FJ L) (by omega) (by unfold maxLen;omega) (by omega) (by omega) _ rfl ?_;intro y M w4 B f af ar;have HF:=cb (cd B (cd (kY f) af));obtain⟨f0,f1,f2,f3,f4,ff⟩:=ou ((((kY f).block D (by simpa using Q)).trans l.out.2.1).trans (show _=some (BE t v (u+k) ps cl)from rfl));clear B f af)
    |fail)
   go_end0;have ax:y=w.heap.size:=by
    rcases HF.out.2.2 with h|h
    .cases h
    .simpa using h
   have ag:=HF.out.1;have ah:=HF.out.2.1;rw[eB,fI]at ag;refine⟨rfl,?_⟩;have ao:=((ah.block D (by simpa using Q)).trans l.out.2.1)
   have ap:=(dh (i:=2) (dh (i:=1) ao (.slice (some ⟨y,0,none⟩) nL M)) (.int .i64 0))
   refine⟨⟨some y,⟨⟨.slice (some ⟨y,0,none⟩) nL M,0,ap.trans rfl,?_,.inl rfl⟩,by simp;omega⟩,.inr (.inr ⟨y,rfl,by omega⟩)⟩,.pU ((((l.out.2.2.drewN _).trans (.dP ah)).setCell 1 _).setCell 2 _)⟩;have h0:qT w4 (.slice (some ⟨y,0,none⟩) nL M) 0 (some y) L:=⟨⟨L,by rw[A.out];exact ag,cG _,rfl,by rw[A.out];omega⟩,rfl⟩
   refine h0.other (fun b E=>?_);cases E;rw[cz _ ⟨D,2,none⟩ _ _ (by show y≠D;omega),cz _ ⟨D,1,none⟩ _ _ (by show y≠D;omega)]
 .have U:¬((d.drop k).length:Int)<=(u:Int)+k:=by omega
  generalize hL:d.drop k=L at*;clear hL;go_wp2;go_quiet ((go_at_call 74;exact Calls.quiet_of (m.out _)))
  go_wp2;go_end0;refine⟨rfl,?_⟩;refine⟨⟨hb,⟨⟨v,u+k,?_,?_,.inr (by show u+k<L.length;omega)⟩,P⟩,.inl rfl⟩,.pU (l.out.2.2.drewN _)⟩
  .exact l.out.2.1.trans rfl
  .exact l.out.1.other (fun _ _=>rfl)
variable {w a:World}{D t:Nat}{hb:Option Nat}{s:St}{v:Value}
theorem Rp (a:Option Addr)(n c:Nat)(l:List UInt8)(w:World)(j:kx w a n c l)(d:a=none->c=0):Calls prog 124 #[.slice a n c,.int .u8 10] w fun e w'=>e= .returned (.int .i64 (Go.Lib.indexByte l 10))/\w'=w:=by
 have t:=j.len;cases k:a with
 |none=>
  have q:n=0:=by
   rcases nw n with h|h
   .exact h
   .obtain⟨g,o,e,_⟩:=j.Qb 0 h;rw[k]at e;cases e
  have m:l=[]:=dw.1 (by omega);rw[q,d k,m];exact Tryz.bytes_IndexByte_nil 10 w
 |some r=>
  have:=Tryz.bytes_IndexByte_at r n c (l.map fun b=>(b.toNat:Int)) 10 w (by grind) (fun i u=>by
   obtain⟨g,o,e,s⟩:=j.Qb i (by omega);rw[k]at e;cases e;have f:(⟨g,o,none⟩:Addr).add i=⟨g,o+i,none⟩:=by unfold Addr.add;split<;>simp_all
   rw[f,s];have p:i<l.length:=by omega
   simp[ep,List.getD,List.getElem?_eq_getElem p])
  rw[CW]at this;exact this
theorem PD.Gd (R:PD w D hb t s)(q:Nat)(b:Bool):PD ((w.drewN q).setCell ⟨D,3,none⟩ (.bool b)) D hb t ⟨s.held,b,s.closed⟩:=by
 obtain⟨⟨v,u,e,H,a⟩,c⟩:=R;refine⟨⟨v,u,?_,H.other (fun k f=>?_),a⟩,c⟩
 .have d:=e;exact(dh (i:=3) d (.bool b)).trans rfl
 .exact cz (w.drewN q) ⟨D,3,none⟩ _ k (by grind)
theorem PD.drewN (R:PD w D hb t s)(q:Nat):PD (w.drewN q) D hb t s:=by
 obtain⟨⟨v,u,c,H,a⟩,b⟩:=R;exact⟨⟨v,u,c,H.other (fun _ _=>rfl),a⟩,b⟩
theorem iV.drewN (h:iV D hb a w)(q:Nat):iV D hb a (w.drewN q):=⟨h.os,h.tape,h.output,h.size,h.block⟩
theorem mP.after {b c:World}(h:iV D hb a b)(k:mP b c D hb t s):mP a c D hb t s:=by
 obtain⟨⟨d,e,f⟩,g⟩:=k;exact⟨⟨d,e,lN.trans (a:=a) (.inl rfl) f h.size⟩,h.trans g (.inl rfl)⟩
section
variable (D t:Nat)(hb:Option Nat)(s:St)(w:World)
theorem vz (R:PD w D hb t s)(Q:s.held.length<=140737488355328):Calls prog 88 #[.pointer (some ⟨D,1,none⟩)] w fun e w'=>e= .returned (.tuple #[])/\mP w w' D hb t ⟨(iH s.held).1,(iH s.held).2,s.closed⟩:=by
 have M:=cb R;obtain⟨⟨v,u,N,H,S⟩,E⟩:=R;obtain⟨d0,d1,d2,d3,d4,df⟩:=ou N;have o:=cb (tI D u v hb s.held w H d1 d2);have T:=Go.Lib.indexByte_ge s.held 10;have O:Hid (iH s.held=if 0<=Go.Lib.indexByte s.held 10 then(s.held.drop ((Go.Lib.indexByte s.held 10).toNat+1),false)else([],true)):=(show _=_ from rfl)
 have p:=cb (fun a n c W (h:kx W a n c s.held) U=>Rp a n c s.held W h U);have V:Hid (0<=Go.Lib.indexByte s.held 10->(Go.Lib.indexByte s.held 10).toNat<s.held.length):=fun h=>(jh s.held [] 10 h).2.1
 have X:=cb (cd H N);generalize Go.Lib.indexByte s.held 10=x at*;generalize F:iH s.held=PL at*;have Y:=cb F;have j:∀q b,iV D hb w ((w.drewN q).setCell ⟨D,3,none⟩ (.bool b)):=fun q b=> .pU (((ie.refl D w).drewN q).setCell 3 _)
 have y:=cb j;by_cases P:0<=x
 .have I:¬x<0:=by omega
  have Z:=V.out P;have i:=O.out;subst i;obtain⟨e,rfl⟩:∃e:Nat,x=(e:Int):=⟨x.toNat,by omega⟩
  have A:=cb (fun q=>Cb D t (e+1) hb ⟨s.held,false,s.closed⟩ _ (M.out.Gd q false) (by show e+1<=s.held.length;omega));go_enter func88,ntmps88;go_wp2_with fail
  refine o.out.mono ?_;rintro r B ⟨⟨a,c,rfl,l,d,_⟩,q,rfl⟩;have f:=cb (p.out a _ c (w.drewN q) (l.later (cV (ct _ _) q)) d);go_wp2_with (first
   |(refine f.out.mono ?_;rintro r B ⟨rfl,g⟩;subst g)
   |fail)
  refine(A.out _).mono ?_;rintro r w3 ⟨rfl,J⟩;have m:=cb J;go_wp2;go_end0;exact⟨rfl,m.out.after (y.out q false)⟩
 .have I:x<0:=by omega
  have i:=O.out;rw[cD P]at i;subst i;have A:=cb (fun q C=>Cb D t s.held.length hb ⟨s.held,true,s.closed⟩ _ ((M.out.Gd q true).drewN C) (PC _));have K:=cb (fun q=>xD D u v hb s.held ((w.drewN q).setCell ⟨D,3,none⟩ (.bool true)) (X.out.1.other (fun k hk=>cz (w.drewN q) ⟨D,3,none⟩ _ k (by intro e;apply E;rw[hk,e]))) (by go_simp) (by go_simp));have L:s.held.drop s.held.length=[]:=by simp
  simp only[L]at A;generalize s.held=hl at*;generalize aa:hl.length=n at*;simp only
  go_enter func88,ntmps88;go_wp2_with fail
  refine o.out.mono ?_;rintro r B ⟨⟨a,c,rfl,l,d,_⟩,q,rfl⟩;have f:=cb (p.out a _ c (w.drewN q) (l.later (cV (ct _ _) q)) d);have ab:((w.drewN q).setCell ⟨D,3,none⟩ (.bool true)).cell? ⟨D,3,none⟩=some (.bool true):=fq _ _ _ (by show(w.cell? ⟨D,3,none⟩).isSome=true;rw[d3];rfl);have z:=cb (K.out q);go_wp2_with (first
   |(refine f.out.mono ?_;rintro r B ⟨rfl,g⟩;subst g)
   |(refine z.out.mono ?_;rintro r B ⟨rfl,C,g⟩;subst g)
   |fail)
  refine(A.out q C).mono ?_;rintro r w3 ⟨rfl,J⟩;have m:=cb J;go_wp2;go_end0;exact⟨rfl,m.out.after ((y.out q true).drewN C)⟩
theorem Gv (R:PD w D hb t s):Calls prog 154 #[.pointer (some ⟨D,1,none⟩)] w fun e w'=>e= .returned (.tuple #[])/\mP w w' D hb t ⟨[],false,true⟩:=by
 obtain⟨⟨v,u,a,H,b⟩,c⟩:=R;obtain⟨d0,d1,d2,d3,d4,f⟩:=ou a;have d:=cb a;go_wp2;go_end0;refine⟨rfl,⟨⟨none,⟨⟨.slice none 0 0,0,?_,⟨⟨[],dv _ _ _ _,PC _,rfl,by simp⟩,rfl⟩,.inl rfl⟩,by simp⟩,.inr (.inl rfl)⟩,.pU ?_⟩⟩
 .exact(dh (i:=4) (dh (i:=3) (dh (i:=2) (dh (i:=1) d.out (.slice none 0 0)) (.int .i64 0)) (.bool false)) (.bool true)).trans rfl
 .exact((((ie.refl D w).setCell 1 _).setCell 2 _).setCell 3 _).setCell 4 _
end
theorem Ql (w:World)(v:Value)(n:Nat)(l:List Value)(f:TypeId)(b:w.ownsRow 0 5 1 v n l)(s:ByteArray)(hb:n+s.size<=140737488355328):∃v' w',(Builtin.append_ #[80,9] f #[v,.string s]).run prog w= .ok v' w'/\w'.ownsRow 0 5 1 v' (n+s.size) (l++Lib.strCells s)/\w.grownBy w' v.ownBlock/\(v'.ownBlock=v.ownBlock\/v'.ownBlock=some w.heap.size):=by
 obtain⟨m,o,c,h,i⟩:=FV;obtain⟨v',w',a,x,y,z⟩:=Lib.run_append_own_string (P:=prog) w 0 80 9 f 5 m fg fi o c h i v n l b s (by unfold maxLen;omega) hb (cG _);refine⟨v',w',a,x,y,?_⟩;obtain⟨H,⟨rfl,rfl⟩|⟨g,d,p,rfl,A,t,B,C,D,q⟩⟩:=b
 .by_cases E:s.size=0
  .left;rw[z.2 ⟨rfl,E⟩]
  .right;rw[run_append_nil_string (P:=prog) w 80 9 f 5 m _ fg fi o c s (by omega) (by omega) (by grind)]at a;simp only[lp]at a;rw[<-a.1];rfl
 .by_cases e:n+s.size<=d
  .left;rw[Lib.run_append_room_string (P:=prog) w 80 9 f 5 m fg fi o h g n d p t s e (by omega)]at a;simp only[lp]at a;rw[<-a.1];rfl
  .right;rw[Lib.run_append_grow_string (P:=prog) w 80 9 f 5 m _ fg fi o c ⟨g,0,none⟩ n d l (by grind) (fun j u r=>by
    have k:(⟨g,0,none⟩:Addr).add j=⟨g,j,none⟩:=by unfold Addr.add;split<;>simp_all
    rw[k,cn t j];rw[<-q]at r;have F:j<n*1:=by grind
    rw[dx F]at r;simpa using r) s (by omega) (by omega) (by rw[i];exact growslice_fits (by omega) (by omega))]at a
   simp only[lp]at a;rw[<-a.1];rfl
theorem ox (w:World){b:Array Oper}{rest:List Oper}{o:Oper}{a:Act}{Q:Exit->Act->World->Prop}(d:o.guard=none)(f x:Operand)(g:o.op= .call {callee:= .builtin .append,args:=#[f,x],argTypes:=#[80,9]})(v:Value)(n:Nat)(e:List Value)(i:a.eval f=v)(c:w.ownsRow 0 5 1 v n e)(s:ByteArray)(j:a.eval x= .string s)(hb:n+s.size<=140737488355328)(h:∀v' w',w'.ownsRow 0 5 1 v' (n+s.size) (e++Lib.strCells s)->w.grownBy w' v.ownBlock->(v'.ownBlock=v.ownBlock\/v'.ownBlock=some w.heap.size)->wpList prog b Q rest (a.put o.dst v') w'):wpList prog b Q (o::rest) a w:=by
 refine sj d fun K k=>?_
 obtain⟨v',w',l,m,p,q⟩:=Ql w v n e o.type c s hb;unfold Oper.wp execOp;simp only[g,resolve,invoke,builtin,od,oe,kj,kK,eu,iI,i,j,l]
 exact k _ _ (h v' w' m p q)
theorem vH (s:ByteArray):Lib.strCells s=Ad s.data.toList:=rfl
theorem ot {base e b n:Nat}{d:List Value}(h:w.ownsRow base e b v n d):∃a n c,v= .slice a n c:=by
 rcases h.2 with⟨h,_⟩|⟨g,f,i,h,_⟩
 .exact⟨_,_,_,h⟩
 .exact⟨_,_,_,h⟩
theorem RQ {f:World}{u:Nat}{e:Value}{d c:List UInt8}{j l:Bool}{a:ByteArray}(x:w.heap[D]?=some (BE t v u j l))(z:hb≠some D)(m:v.ownBlock=hb)(E:u<=c.length)(F:d=c.drop u)(n:u=0\/u<d.length)(A:c.length+a.size<=140737488355328)(g:f.ownsRow 0 5 1 e (c.length+a.size) (Ad c++Lib.strCells a))(b:w.grownBy f v.ownBlock)(o:e.ownBlock=v.ownBlock\/e.ownBlock=some w.heap.size):mP w (f.setCell ⟨D,1,none⟩ e) D hb t ⟨d++a.data.toList,j,l⟩/\f.heap[D]?=some (BE t v u j l):=by
 have p:=cA x;have q:some D≠v.ownBlock:=by grind
 have i:=(b.block D p q).trans x;have r:e.ownBlock≠some D:=by grind
 have s:(c++a.data.toList).length=c.length+a.size:=by simp
 refine⟨⟨⟨e.ownBlock,⟨⟨e,u,(dh (i:=1) i e).trans rfl,?_,?_⟩,r⟩,?_⟩,?_⟩,i⟩
 .have B:qT f e u e.ownBlock (d++a.data.toList):=⟨⟨c++a.data.toList,by rw[FI,s,<-vH];exact g,by omega,by grind,by omega⟩,rfl⟩
  exact B.other (fun k y=>cz f ⟨D,1,none⟩ _ k (by grind))
 .rcases n with h|h
  .exact .inl h
  .right;simp;omega
 .rcases o with h|h
  .exact .inl (by rw[h,m])
  .exact .inr (.inr ⟨_,h,PC _⟩)
 .refine⟨b.os,b.tape,b.output,?_,fun k y C H=>?_⟩
  .have:=b.size;simpa using this
  .exact(cz f ⟨D,1,none⟩ _ k C).trans (b.block k y (by grind))
theorem DD (D t:Nat)(hb:Option Nat)(s:St)(d:ByteArray)(w:World)(R:PD w D hb t s)(o:2*s.held.length+d.size<=140737488355328):Calls prog 58 #[.pointer (some ⟨D,1,none⟩),.string d] w fun e w'=>e= .returned (.tuple #[])/\mP w w' D hb t (jL s d.data.toList):=by
 have S:=cb R;obtain⟨⟨v,u,p,H,k⟩,q⟩:=R;obtain⟨f,x,T⟩:=s;simp only at p H k o;obtain⟨d0,d1,d2,d3,d4,df⟩:=ou p;cases T with
 |true=>
  have e:jL ⟨f,x,true⟩ d.data.toList=⟨f,x,true⟩:=rfl;rw[e];go_wp2;refine cE (pX rfl _ _ _) rfl ?_;exact⟨rfl,⟨⟨hb,S.out,.inl rfl⟩,iV.refl _ _ _⟩⟩
 |false=>
  obtain⟨⟨g,I,U,J,h4⟩,y⟩:=H;have hl:f.length=g.length-u:=by rw[J];simp
  have h:g.length+d.size<=140737488355328:=by omega
  have K:=cb (fun l z a b c=>RQ (f:=l) (e:=z) p q y U J k h a b c);obtain⟨L,M,N,A⟩:=ot I;subst A;have O:=cb I;cases x with
  |false=>
   have e:jL ⟨f,false,false⟩ d.data.toList=⟨f++d.data.toList,false,false⟩:=rfl;rw[e];go_enter func58,ntmps58;go_wp2_with (first
    |(at_builtin;refine ox _ rfl _ _ rfl (.slice L M N) g.length (Ad g) rfl O.out d rfl h ?_;intro z l a b c;obtain⟨V,X,Y,i⟩:=ot a;subst i;have j:=cb (K.out l _ a b c);obtain⟨f0,f1,f2,f3,f4,Z⟩:=ou j.out.2)
    |fail)
   go_end0;exact⟨rfl,j.out.1⟩
  |true=>
   have e:jL ⟨f,true,false⟩ d.data.toList=⟨(iH (f++d.data.toList)).1,(iH (f++d.data.toList)).2,false⟩:=rfl;rw[e];have B:(f++d.data.toList).length<=140737488355328:=by simp;omega
   have m:=cb (fun W n (R:PD W D n t ⟨f++d.data.toList,true,false⟩)=>vz D t n ⟨f++d.data.toList,true,false⟩ W R B);simp only at m;generalize iH (f++d.data.toList)=PL at*;go_enter func58,ntmps58;go_wp2_with (first
    |(at_builtin;refine ox _ rfl _ _ rfl (.slice L M N) g.length (Ad g) rfl O.out d rfl h ?_;intro z l a b c;obtain⟨V,X,Y,i⟩:=ot a;subst i;have j:=cb (K.out l _ a b c);obtain⟨f0,f1,f2,f3,f4,Z⟩:=ou j.out.2)
    |fail)
   obtain⟨C,P,E⟩:=j.out.1.ex;refine(m.out _ C P).mono ?_;rintro r w3 ⟨rfl,Q⟩;have aa:=cb (cd Q (cd P E));go_wp2;go_end0;refine⟨rfl,?_⟩;obtain⟨⟨F,R3,F3⟩,T4⟩:=Q;exact⟨⟨F,R3,E.trans F3 j.out.1.turn.size⟩,j.out.1.turn.trans T4 E⟩
end Go.Proofs.YtlonjggfnleolaaGreatDoor
