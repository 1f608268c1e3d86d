import Derived.Test.YtlonjggfnleolaaGreatDoorLines
import Derived.Laws.Runes
import Derived.Lib.Bytealg
set_option linter.unusedVariables false
set_option maxHeartbeats 4000000
set_option maxRecDepth 20000
namespace Go.Proofs.YtlonjggfnleolaaGreatDoor
open Go.RowKit Go.Proofs.Tryz
variable {B:Nat}{a w w':World}{p:Addr}
structure iq (B:Nat)(w w':World):Prop where
 os:w'.os=w.os
 tape:w'.tape=w.tape
 output:w'.output=w.output
 size:w'.heap.size=w.heap.size
 block:∀k,k≠B->w'.heap[k]?=w.heap[k]?
theorem iq.refl (B:Nat)(w:World):iq B w w:=⟨rfl,rfl,rfl,rfl,fun _ _=>rfl⟩
theorem iq.trans {b c:World}(h:iq B a b)(k:iq B b c):iq B a c:=
 ⟨k.os.trans h.os,k.tape.trans h.tape,k.output.trans h.output,k.size.trans h.size,fun i d=>(k.block i d).trans (h.block i d)⟩
theorem iq.drew (h:iq B a w):iq B a w.drew:=⟨h.os,h.tape,h.output,h.size,h.block⟩
theorem iq.setCell (h:iq B a w)(b:p.block=B)(u:Value):iq B a (w.setCell p u):=
 h.trans ⟨by simp[World.setCell],by simp,by simp[World.setCell],by simp,fun k c=>cz w p u k (by omega)⟩
theorem iq.below (h:iq B w w'):Below B w w':=⟨h.os,h.tape,h.output,Nat.le_of_eq h.size.symm,fun k a=>h.block k (by omega)⟩
theorem iq.cell (h:iq B w w')(a:p.block≠B):w'.cell? p=w.cell? p:=cS (w:=w) (h.block p.block a)
theorem sC (l:List UInt8):strOfNums (l.map fun b=>(b.toNat:Int))=⟨l.toArray⟩:=by
 unfold strOfNums;rw[PK];congr 1;congr 1;conv=>rhs;rw[<-List.map_id l]
 apply kF;simp
theorem cb {p:Prop}(h:p):Hid p:=h
theorem PE (w:World):Hid (∀x y,Below w.heap.size w ((w.alloc x).alloc y)):=fun x y=>(cU).alloc (by simp) _
theorem Jv {W a:World}(hb:Below W.heap.size W a):(∀b o,b<W.heap.size->a.cell? ⟨b,o,none⟩=W.cell? ⟨b,o,none⟩)/\(∀b o,b<W.heap.size->a.frozen? ⟨b,o,none⟩=W.frozen? ⟨b,o,none⟩):=
 ⟨fun b o h=>hb.cell (p:=⟨b,o,none⟩) h,fun b o h=>hb.frozen (p:=⟨b,o,none⟩) h⟩
variable {w:World}{b:Nat}{cs:Array Value}{f:Nat×Nat}
theorem cn {t:TypeId}(h:w.heap[b]?=some (.cells cs t f))(i:Nat):w.cell? ⟨b,i,none⟩=cs[i]?:=by
 simp[World.cell?,h]
theorem dN {t:TypeId}(h:w.heap[b]?=some (.cells cs t (0,0)))(i:Nat):w.frozen? ⟨b,i,none⟩=false:=by
 simp[World.frozen?,h]
theorem cA {o:Obj}(h:w.heap[b]?=some o):b<w.heap.size:=(jQ.1 h).1
theorem du (w:World)(o:Obj):(w.alloc o).heap[w.heap.size]?=some o:=by
 exact Array.getElem?_push_size
theorem dh {i:Nat}{t:TypeId}(h:w.heap[b]?=some (.cells cs t f))(v:Value):(w.setCell ⟨b,i,none⟩ v).heap[b]?=some (.cells (cs.setIfInBounds i v) t f):=by
 have a:=cA h;have c:=(jQ.1 h).2;simp[World.setCell,Array.getElem_modify,a,c]
def xj:Array Value:=#[.int .i64 0,.slice none 0 0,.string ⟨#[]⟩,.string ⟨#[]⟩,.bool false,.int .i64 0,.int .i64 0,.bool false]
theorem EF (w:World):(Instr.makeSlice 34 (.int .i64 0) (.int .i64 5)).run prog w= .ok (.slice (some ⟨w.heap.size,0,none⟩) 0 5) (w.alloc (.cells #[.string ⟨#[]⟩,.string ⟨#[]⟩,.string ⟨#[]⟩,.string ⟨#[]⟩,.string ⟨#[]⟩] 9)):=by kernel_rfl
def gG (W:World)(T a:Nat)(b:List ByteArray):Prop:=∃Z:Array Value,W.heap[T]?=some (.cells Z 9 (0,0))/\Z.size=a/\b.length<=a/\∀(i:Nat) (x:ByteArray),b[i]?=some x->Z[i]?=some (.string x)
theorem Gh (n:Nat):(Builtin.zeroCells #[Value.string ⟨#[]⟩] n).size=n:=by
 simp[Builtin.zeroCells]
def oG (t:ByteArray):List UInt8:=(ByteArray.mk #[36]++sizedB t).data.toList
def mK (a:List ByteArray):List UInt8:=(ByteArray.mk #[42]++gh a.length++ByteArray.mk #[10]).data.toList++a.flatMap oG
theorem Rv {t:ByteArray}(h:t.size<=40):(oG t).length<=45:=by
 have:=kZ h;have e:(ByteArray.mk #[36]).size=1:=rfl;unfold oG;rw[gz,cR];omega
theorem FA (a:List ByteArray)(h:∀x∈a,x.size<=40):(a.flatMap oG).length<=45*a.length:=by
 induction a with
 |nil=>simp
 |cons x a b=>
  have d:=Rv (h x (by simp));have e:=b (fun y c=>h y (by simp[c]));rw[nZ,cI,dc];omega
theorem AW (L:Nat):(ByteArray.mk #[42]++gh L++ByteArray.mk #[10]).size<=4:=by
 have:=fT L;have e:(ByteArray.mk #[42]).size=1:=rfl;have a:(ByteArray.mk #[10]).size=1:=rfl;rw[cR,cR];omega
theorem Oh {w:World}{a b c x:Obj}:((((w.alloc a).alloc b).alloc c).alloc x).heap[w.heap.size+1+1+1]?=some x:=by
 have:=du (((w.alloc a).alloc b).alloc c) x;rwa [cF,cF,cF]at this
theorem MO (n m q:Nat):n<=(Question.appendCap n m 9).cut q:=Nat.le_add_right _ _
theorem Oi (k:Int)(b o c:Nat)(q:List ByteArray)(p wd:ByteArray)(ft:Bool)(aa id:Int)(w:World)(R:Jl k q p)(hb:b<w.heap.size)(ao:q.length<=c)(hc:∀(j:Nat) x,q[j]?=some x->w.cell? ⟨b,o+j,none⟩=some (.string x)):Calls prog 249 #[.agg #[],db k (.slice (some ⟨b,o,none⟩) q.length c) p wd ft aa,.int .i64 id] w fun e w'=>e= .returned (.string ⟨(mK (rp k::q++if k=2 then [p]else [])).toArray⟩)/\Below w.heap.size w w':=by
 unfold db;have HN:Hid (∀W:World,Calls prog 213 #[.int .i64 k] W fun e w'=>e= .returned (.string (rp k))/\w'=W):=fun W=>yD k W R.kind
 have aq:=yC k;have HK:=cb R.keys;have H:=cb hc;have HO:=cb (cd R.one (cd R.xn R.yu));have hv:=R.xi;clear R hc;have ar:b<w.heap.size+1:=by omega
 have z:b<w.heap.size+1+1:=by omega
 generalize hN:rp k=N at*;clear hN;generalize Y:(N::q++if k=2 then [p]else [])=f at*;have au:f.length<=6:=by
  have:=HO.out.2.2;rw[<-Y];split<;>simp<;>omega
 have I:∀x∈f,x.size<=40:=by
  intro x hx;rw[<-Y,cr,cQ]at hx;rcases hx with(rfl|hx)|hx
  .omega
  .have:=HK.out x hx;omega
  .split at hx
   .simp at hx;subst hx;exact hv
   .simp at hx
 have HX:=cb Y;have J:=cb I;clear Y I;generalize C:q.length=n at*;go_wp2;go_cut [7]from 8 (fun s7 W=>∃T g,s7= .slice (some ⟨T,0,none⟩) (n+1) g/\gG W T g (N::q)/\T≠w.heap.size+1/\w.heap.size<=T/\Below w.heap.size w W/\W.cell? ⟨w.heap.size+1,0,none⟩=some (.int .i64 k)/\W.cell? ⟨w.heap.size+1,2,none⟩=some (.string p))
 case first=>
  obtain⟨a,rfl⟩|⟨a,a1,rfl⟩|⟨a,a1,a2,rfl⟩|⟨a,a1,a2,a3,rfl⟩:(∃a,q=[a])\/(∃a b,q=[a,b])\/(∃a b c,q=[a,b,c])\/∃a b c d,q=[a,b,c,d]:=by
   have h:=HO.out.2;rw[<-C]at h;match q,h with
   | [a],_=>simp
   | [a,b],_=>simp
   | [a,b,c],_=>simp
   | [a,b,c,d],_=>simp
   | [],h=>simp at h
   |_::_::_::_::_::_,h=>simp at h
  all_goals
   have c0:=H.out 0 _ rfl
   try have c1:=H.out 1 _ rfl
   try have c2:=H.out 2 _ rfl
   try have c3:=H.out 3 _ rfl
   simp only[dc,fk,eB,Nat.reduceAdd,im]at C c0
   replace C:=C.symm
   go_region_held3 (fun w'=>w'.cell? ⟨w.heap.size+1,0,none⟩=some (.int .i64 k)/\w'.cell? ⟨w.heap.size+1,1,none⟩=some (.slice (some ⟨b,o,none⟩) n c)) (go_keep)
    (first|(go_at_call 213;refine(HN.out _).mono ?_;rintro e w4 ⟨rfl,rfl⟩))
   go_wp2_with fail
   subst C
   go_meet
   case rel=>
    have D:∀n,n<=(Question.appendCap n 1 9).cut (w.tape (w.drawn+1) (Question.appendCap n 1 9)):=fun n=>MO n 1 _
    have g2:=D 2;have g3:=D 3;have g4:=D 4;have g5:=D 5;refine⟨_,_,rfl,⟨_,Oh,by simp[Gh];omega,by simp;omega,?_⟩,by omega,by omega,?_,by go_simp,by go_simp⟩
    .intro i x hx;have hi:=(cq.1 hx).1;try rw[<-Array.append_assoc]
     rw[PO (by simpa using hi)];rcases i with _|_|_|_|_|i<;>simp at hx<;>(subst hx;rfl)
    .exact(((cU.alloc (by simp) _).alloc (by simp;omega) _).alloc (by simp;omega) _).drew.drew
 case rest=>
  obtain⟨T,g,rfl,hT,nT,lT,K,q0,q2⟩:=hcut;have HT:=cb hT;have E:=cb K;obtain⟨Z,z1,z2,z3,z4⟩:=hT;have M:=cA z1;have tf:=dN z1;have O:=cb z1;have r:=cb z4;subst C;clear z1 z4 K HN;go_upto_if 20 with(fail)
  go_cut [7]from 8 (fun s7 W=>∃T g,s7= .slice (some ⟨T,0,none⟩) f.length g/\gG W T g f/\Below w.heap.size w W)
  case first=>
   by_cases h2:k=2
   .subst h2;obtain⟨a,rfl⟩:∃a,q=[a]:=by
     have:=HO.out.1 (by decide);match q,this with
     | [a],_=>exact⟨a,rfl⟩
    obtain rfl:f=[N,a,p]:=by rw[<-HX.out];simp
    have t0:wc.cell? ⟨T,0,none⟩=some (.string N):=(cn O.out 0).trans (r.out 0 N rfl);have t1:wc.cell? ⟨T,1,none⟩=some (.string a):=(cn O.out 1).trans (r.out 1 a rfl);have av:2<=g:=z3;clear z3;by_cases h3:3<=g
    .obtain⟨v2,P⟩:∃v,Z[2]?=some v:=⟨Z[2]'(by omega),dZ _⟩
     have t2:wc.cell? ⟨T,2,none⟩=some v2:=(cn O.out 2).trans P;clear P;go_wp2_with fail
     go_meet
     case rel=>
      refine⟨T,g,rfl,⟨Z.setIfInBounds 2 (.string p),?_,by simpa using z2,by simpa using h3,?_⟩,?_⟩
      .exact(cC (wc.setCell ⟨T,2,none⟩ (.string p)) (.cells #[.string p] 9) T (by simpa using M)).trans (dh O.out (.string p))
      .intro i x hx;rcases i with _|_|_|i<;>simp at hx<;>subst hx
       .rw[dK (by omega)];exact r.out 0 _ rfl
       .rw[dK (by omega)];exact r.out 1 _ rfl
       .rw[eU (by omega)]
      .exact(E.out.setCell (p:=⟨T,2,none⟩) lT _).alloc (by simp;omega) _
    .have ab:g=2:=by omega
     subst ab;go_wp2_with fail
     go_meet
     case rel=>
      have D:=MO 3 2 (wc.tape wc.drawn (Question.appendCap 3 2 9));have u:=fun x y=>du (wc.alloc x) y
      simp only[cF]at u;refine⟨wc.heap.size+1,_,rfl,⟨_,u _ _,by simp[Gh];omega,by simpa using D,?_⟩,?_⟩
      .intro i x hx;have hi:=(cq.1 hx).1;rw[PO (by simpa using hi)];rcases i with _|_|_|i<;>simp at hx<;>(subst hx;rfl)
      .exact((E.out.alloc E.out.size _).alloc (cP E.out.size (by simp)) _).drew
   .have aw:(k==2)=false:=by simpa using h2
    obtain rfl:f=N::q:=by rw[<-HX.out,cD h2,il]
    go_wp2_with fail
    go_meet
    case rel=>exact⟨T,g,rfl,HT.out,E.out⟩
  case rest=>
   obtain⟨T2,ap,rfl,ac,A⟩:=hcut;clear HT E M tf O r q0 q2 z3 H;have ad:=cb A;have ae:w.heap.size<=wc.heap.size:=A.size;obtain⟨Z2,y1,y2,y3,y4⟩:=ac;have af:=cA y1;have ag:Hid (∀W,Below wc.heap.size wc W->∀(i:Nat) (x:ByteArray),f[i]?=some x->W.cell? ⟨T2,i,none⟩=some (.string x)):=fun W hW i x hx=>(hW.cell (p:=⟨T2,i,none⟩) af).trans ((cn y1 i).trans (y4 i x hx))
   clear y1 y4 A;generalize hL:f.length=L at*;have HL:=cb hL;clear hL;have dL:=fT L;have ax:=AW L;have B:Hid (mK f=(ByteArray.mk #[42]++gh L++ByteArray.mk #[10]).data.toList++f.flatMap oG):=by show _=_;rw[<-HL.out];rfl
   have Q:Hid (∀j,((f.take j).flatMap oG).length<=270):=by
    intro j;have h1:=FA (f.take j) (fun x hx=>J.out x (fH hx));have h2:(f.take j).length<=f.length:=PY _ _;have h3:=HL.out;omega
   generalize ay:(ByteArray.mk #[42]++gh L++ByteArray.mk #[10])=S at*;go_wp2_with fail
   go_at_call 122;refine(sX L _ (by omega)).mono ?_;rintro e w1 ⟨rfl,ah⟩;subst ah;go_wp2_with fail
   go_at_call 128;have U:Lib.IsBuilder 123 5 wc.heap.size wc.heap.size [] (wc.alloc (Obj.cells #[Value.pointer none,Value.slice none 0 0] 123)):= .inl ⟨PC _,.slice none 0 0,du wc _,dv _ _ _ _,by simp[Value.ownBlock]⟩;refine(Tryz.writeString wc.heap.size wc.heap.size [] S _ U (by simp;omega) (by simp)).mono ?_;rintro e w2 ⟨rfl,s,z⟩;have t:Below wc.heap.size wc w2:=(cU).trans z;have H2:Hid (Lib.BuilderAt 123 5 wc.heap.size wc.heap.size (.pointer (some ⟨wc.heap.size,0,none⟩)) (Lib.byteCells (S.data.toList++(f.take 0).flatMap oG)) w2/\Below wc.heap.size wc w2):=⟨by simpa [Lib.strCells_eq]using s,t⟩
   clear U s z t;go_wp2;go_loopw [34] (fun i wr=>∃j:Nat,j<=L/\i= .int .i64 j/\Hid (Lib.BuilderAt 123 5 wc.heap.size wc.heap.size (.pointer (some ⟨wc.heap.size,0,none⟩)) (Lib.byteCells (S.data.toList++(f.take j).flatMap oG)) wr/\Below wc.heap.size wc wr)) (fun i _=>L-(intOf i).toNat)
   case atStart=>exact⟨0,cG _,rfl,H2⟩
   case round=>
    obtain⟨j,hj,rfl,F⟩:=hrel;by_cases ai:j<L
    .obtain⟨x,hx⟩:∃x,f[j]?=some x:=⟨f[j]'(by rw[HL.out];exact ai),cp _⟩
     have aj:=ag.out wr F.out.2 j x hx;have ak:=J.out x (cu hx);have az:=kZ ak;have HX:=cb hx;clear hx;go_wp2_with fail
     go_at_call 215;refine(qB x _ (by omega)).mono ?_;rintro e w3 ⟨rfl,al⟩;subst al;have aA:(ByteArray.mk #[36]++sizedB x).size<=45:=by rw[cR];have e:(ByteArray.mk #[36]).size=1:=rfl;omega
     go_wp2_with fail
     go_at_call 128;have aB:=Q.out j;refine(Tryz.writeString wc.heap.size wc.heap.size (Lib.byteCells (S.data.toList++(f.take j).flatMap oG)) (ByteArray.mk #[36]++sizedB x) _ (.inr F.out.1) ?hl1 ?hl2).mono ?_;case hl1=>rw[jl,cI,gz];omega
     case hl2=>exact F.out.2.size
     rintro e w4 ⟨rfl,s,V⟩;have am:Hid (Lib.BuilderAt 123 5 wc.heap.size wc.heap.size (.pointer (some ⟨wc.heap.size,0,none⟩)) (Lib.byteCells (S.data.toList++(f.take (j+1)).flatMap oG)) w4/\Below wc.heap.size wc w4):=by
      refine⟨?_,F.out.2.trans V⟩;have e1:(f.take (j+1)).flatMap oG=(f.take j).flatMap oG++oG x:=by
       rw[eV,HX.out,jD];simp
      rw[e1,<-fx];have e2:∀l m:List UInt8,Lib.byteCells (l++m)=Lib.byteCells l++Lib.byteCells m:=fun l m=>by simp[Lib.byteCells]
      rw[e2];exact s
     clear s V;go_wp2;go_roundw;case rel=>exact⟨j+1,by omega,by go_num,am⟩
     case measure=>simp[intOf];omega
    .have an:j=L:=by omega
     subst an;have HF:Hid (Lib.BuilderAt 123 5 wc.heap.size wc.heap.size (.pointer (some ⟨wc.heap.size,0,none⟩)) (Lib.byteCells (mK f)) wr/\Below wc.heap.size wc wr):=by
      have:=F.out;rw[<-HL.out,gd]at this;rw[B.out];exact this
     clear F;go_wp2_with fail
     go_at_call 57;refine(Tryz.Builder_String_any wc.heap.size wc.heap.size (mK f) _ (.inr HF.out.1) HF.out.2.size).mono ?_;rintro e w5 ⟨rfl,X⟩;have HE:Hid (Below w.heap.size w w5):=ad.out.trans ((HF.out.2.trans X).mono ae);clear X;go_wp2;go_ret;exact⟨rfl,HE.out⟩
variable {w:World}{a:Option Addr}{n c:Nat}{j:List ByteArray}
theorem QJ (d:Int)(w:World)(a:d≠1)(b:d≠2)(c:d≠3):Calls prog 47 #[.int .i64 d] w fun e w'=>e= .returned (.tuple #[.nilIface,.bool false])/\w'=w:=by
 go_wp2;go_ret2;exact⟨rfl,rfl⟩
structure dH (w:World)(a:Option Addr)(n c:Nat)(ss:List ByteArray):Prop where
 len:ss.length=n
 cap:n<=c
 small:ss.length<=140737488355328
 zd:∀s∈ss,s.size<=maxLen
 form:(∃b o,a=some ⟨b,o,none⟩/\b<w.heap.size/\∀(i:Nat) (s:ByteArray),ss[i]?=some s->w.cell? ⟨b,o+i,none⟩=some (.string s))\/(ss=[]/\c=0)
theorem dH.strs (h:dH w a n c j):og w (.slice a n c) j:=by
 obtain⟨e,l,f,g,i⟩:=h;refine⟨?_,f,g⟩;rcases i with⟨b,o,rfl,k,d⟩|⟨rfl,rfl⟩
 .exact .inl ⟨b,o,c,by rw[e],k,d⟩
 .subst e;exact .inr ⟨a,rfl,rfl⟩
theorem dH.later {w':World}(h:dH w a n c j)(hb:Below w.heap.size w w'):dH w' a n c j:=by
 obtain⟨f,g,k,l,m⟩:=h;refine⟨f,g,k,l,?_⟩;rcases m with⟨b,o,rfl,e,d⟩|h
 .exact .inl ⟨b,o,rfl,cH e hb.size,fun i s p=>(hb.cell (p:=⟨b,o+i,none⟩) e).trans (d i s p)⟩
 .exact .inr h
def uf (d:Int):Bool:=decide (d=1) || decide (d=2) || decide (d=3)
def jY (d k:Int)(n:Nat)(id:Int):Bool:=uf d&&(decide (d≠2) || gI k n id)
def uy (d k:Int)(j:List ByteArray)(b:ByteArray)(id:Int):ByteArray:=
 if d=1 then lE k j b else if d=2 then gO 1 k (j.headD ⟨#[]⟩).size b.size id++j.headD ⟨#[]⟩++b else⟨(mK (rp k::j++if k=2 then [b]else [])).toArray⟩
section
variable (w:World)
theorem yB:(method 432 160 (.agg #[]) "CanSay").run prog w= .ok (210,.agg #[]) w:=by kernel_rfl
theorem Md:(method 432 160 (.agg #[]) "Ask").run prog w= .ok (209,.agg #[]) w:=by kernel_rfl
theorem tO:(method 432 161 (.agg #[]) "CanSay").run prog w= .ok (243,.agg #[]) w:=by kernel_rfl
theorem NA:(method 432 161 (.agg #[]) "Ask").run prog w= .ok (170,.agg #[]) w:=by kernel_rfl
theorem AE:(method 432 162 (.agg #[]) "CanSay").run prog w= .ok (250,.agg #[]) w:=by kernel_rfl
theorem NB:(method 432 162 (.agg #[]) "Ask").run prog w= .ok (249,.agg #[]) w:=by kernel_rfl
end
section
variable (k:Int)(a:Option Addr)(n c:Nat)(j:List ByteArray)(b h:ByteArray)(g:Bool)(f id:Int)(w:World)
theorem Js (o:dH w a n c j)(p:b.size<=maxLen)(i:fp k j b=false):Calls prog 21 #[.int .i64 1,db k (.slice a n c) b h g f,.int .i64 id] w fun e w'=>e= .returned (.tuple #[.string ⟨#[]⟩,.int .i64 1])/\Below w.heap.size w w':=by
 have l:∀x,Below w.heap.size w (w.alloc x):=fun x=>cU
 have d:=cb l;have q:Hid (∀x,Calls prog 48 #[db k (.slice a n c) b h g f] (w.alloc x) fun e w'=>e= .returned (.bool false)/\Below (w.alloc x).heap.size (w.alloc x) w'):=fun x=>by have:=mI k (.slice a n c) j b h g f _ (o.later (d.out x)).strs p;rwa [i]at this
 unfold db at*;go_enter mm,ld;go_wp2_with fail
 refine(OM _).mono ?_;rintro e w' ⟨rfl,s⟩;go_wp2_with fail
 refine(q.out _).mono ?_;rintro e t ⟨rfl,m⟩;have r:=cb m;go_wp2;go_ret2;exact⟨rfl,(d.out _).trans (r.out.mono (by simp))⟩
theorem Gn (u:dH w a n c j)(z:b.size<=maxLen)(m:fp k j b=true)(i:ByteArray)(o:true=true)(A:∀W,dH W a n c j->Calls prog 209 #[.agg #[],db k (.slice a n c) b h g f,.int .i64 id] W fun e w'=>e= .returned (.string i)/\Below W.heap.size W w'):Calls prog 21 #[.int .i64 1,db k (.slice a n c) b h g f,.int .i64 id] w fun e w'=>e= .returned (.tuple #[.string i,.int .i64 0])/\Below w.heap.size w w':=by
 have p:∀x,Below w.heap.size w (w.alloc x):=fun x=>cU
 have q:=cb p;clear p;have C:Hid (∀x,Calls prog 48 #[db k (.slice a n c) b h g f] (w.alloc x) fun e w'=>e= .returned (.bool true)/\Below (w.alloc x).heap.size (w.alloc x) w'):=fun x=>by have:=mI k (.slice a n c) j b h g f _ (u.later (q.out x)).strs z;rwa [m]at this
 have r:Hid (∀W,Calls prog 210 #[.agg #[],db k (.slice a n c) b h g f,.int .i64 id] W fun e w'=>e= .returned (.bool true)/\Below W.heap.size W w'):=fun W=>xV _ id W
 have v:Hid (∀W,Below w.heap.size w W->Calls prog 209 #[.agg #[],db k (.slice a n c) b h g f,.int .i64 id] W fun e w'=>e= .returned (.string i)/\Below W.heap.size W w'):=fun W D=>A W (u.later D)
 have E:=yB;have F:=Md;clear u z m A o;unfold db at*;go_enter mm,ld;go_wp2_with fail
 go_at_call 47;refine(OM _).mono ?_;rintro e w' ⟨rfl,H⟩;subst H;go_wp2_with fail
 go_at_call 48;refine(C.out _).mono ?_;rintro e B ⟨rfl,d⟩;obtain⟨I,J⟩:=jE d;have K:w.heap.size<B.heap.size:=by have:=d.size;simp at this;omega
 have L:=cb d;clear d;go_wp2_with fail
 go_at_call 210;refine(r.out _).mono ?_;rintro e M ⟨rfl,l⟩;obtain⟨N,O⟩:=jE l;have P:=cb l;clear l;go_wp2_with fail
 go_at_call 209;have y:Below w.heap.size w B:=(q.out _).trans (L.out.mono (by simp));have t:Below w.heap.size w M:=y.trans (P.out.mono y.size);refine(v.out _ t).mono ?_;rintro e R ⟨rfl,s⟩;have Q:=cb (t.trans (s.mono t.size));clear y t s;go_wp2;go_ret2;exact⟨rfl,Q.out⟩
theorem Jt (o:dH w a n c j)(p:b.size<=maxLen)(i:fp k j b=false):Calls prog 21 #[.int .i64 2,db k (.slice a n c) b h g f,.int .i64 id] w fun e w'=>e= .returned (.tuple #[.string ⟨#[]⟩,.int .i64 1])/\Below w.heap.size w w':=by
 have l:∀x,Below w.heap.size w (w.alloc x):=fun x=>cU
 have d:=cb l;have q:Hid (∀x,Calls prog 48 #[db k (.slice a n c) b h g f] (w.alloc x) fun e w'=>e= .returned (.bool false)/\Below (w.alloc x).heap.size (w.alloc x) w'):=fun x=>by have:=mI k (.slice a n c) j b h g f _ (o.later (d.out x)).strs p;rwa [i]at this
 unfold db at*;go_enter mm,ld;go_wp2_with fail
 refine(NY _).mono ?_;rintro e w' ⟨rfl,s⟩;go_wp2_with fail
 refine(q.out _).mono ?_;rintro e t ⟨rfl,m⟩;have r:=cb m;go_wp2;go_ret2;exact⟨rfl,(d.out _).trans (r.out.mono (by simp))⟩
theorem Gp (u:dH w a n c j)(z:b.size<=maxLen)(o:fp k j b=true)(l:ByteArray)(i:(gI k n id)=true)(A:∀W,dH W a n c j->Calls prog 170 #[.agg #[],db k (.slice a n c) b h g f,.int .i64 id] W fun e w'=>e= .returned (.string l)/\Below W.heap.size W w'):Calls prog 21 #[.int .i64 2,db k (.slice a n c) b h g f,.int .i64 id] w fun e w'=>e= .returned (.tuple #[.string l,.int .i64 0])/\Below w.heap.size w w':=by
 have p:∀x,Below w.heap.size w (w.alloc x):=fun x=>cU
 have q:=cb p;clear p;have C:Hid (∀x,Calls prog 48 #[db k (.slice a n c) b h g f] (w.alloc x) fun e w'=>e= .returned (.bool true)/\Below (w.alloc x).heap.size (w.alloc x) w'):=fun x=>by have:=mI k (.slice a n c) j b h g f _ (u.later (q.out x)).strs z;rwa [o]at this
 have r:Hid (∀W,Calls prog 243 #[.agg #[],db k (.slice a n c) b h g f,.int .i64 id] W fun e w'=>e= .returned (.bool true)/\Below W.heap.size W w'):=fun W=>by have:=(uS k a n c b h g f id W);rwa [i]at this
 have v:Hid (∀W,Below w.heap.size w W->Calls prog 170 #[.agg #[],db k (.slice a n c) b h g f,.int .i64 id] W fun e w'=>e= .returned (.string l)/\Below W.heap.size W w'):=fun W D=>A W (u.later D)
 have E:=tO;have F:=NA;clear u z o A i;unfold db at*;go_enter mm,ld;go_wp2_with fail
 go_at_call 47;refine(NY _).mono ?_;rintro e w' ⟨rfl,H⟩;subst H;go_wp2_with fail
 go_at_call 48;refine(C.out _).mono ?_;rintro e B ⟨rfl,d⟩;obtain⟨I,J⟩:=jE d;have K:w.heap.size<B.heap.size:=by have:=d.size;simp at this;omega
 have L:=cb d;clear d;go_wp2_with fail
 go_at_call 243;refine(r.out _).mono ?_;rintro e M ⟨rfl,m⟩;obtain⟨N,O⟩:=jE m;have P:=cb m;clear m;go_wp2_with fail
 go_at_call 170;have y:Below w.heap.size w B:=(q.out _).trans (L.out.mono (by simp));have t:Below w.heap.size w M:=y.trans (P.out.mono y.size);refine(v.out _ t).mono ?_;rintro e R ⟨rfl,s⟩;have Q:=cb (t.trans (s.mono t.size));clear y t s;go_wp2;go_ret2;exact⟨rfl,Q.out⟩
theorem Ju (o:dH w a n c j)(p:b.size<=maxLen)(i:fp k j b=false):Calls prog 21 #[.int .i64 3,db k (.slice a n c) b h g f,.int .i64 id] w fun e w'=>e= .returned (.tuple #[.string ⟨#[]⟩,.int .i64 1])/\Below w.heap.size w w':=by
 have l:∀x,Below w.heap.size w (w.alloc x):=fun x=>cU
 have d:=cb l;have q:Hid (∀x,Calls prog 48 #[db k (.slice a n c) b h g f] (w.alloc x) fun e w'=>e= .returned (.bool false)/\Below (w.alloc x).heap.size (w.alloc x) w'):=fun x=>by have:=mI k (.slice a n c) j b h g f _ (o.later (d.out x)).strs p;rwa [i]at this
 unfold db at*;go_enter mm,ld;go_wp2_with fail
 refine(OO _).mono ?_;rintro e w' ⟨rfl,s⟩;go_wp2_with fail
 refine(q.out _).mono ?_;rintro e t ⟨rfl,m⟩;have r:=cb m;go_wp2;go_ret2;exact⟨rfl,(d.out _).trans (r.out.mono (by simp))⟩
theorem Gq (u:dH w a n c j)(z:b.size<=maxLen)(m:fp k j b=true)(i:ByteArray)(o:true=true)(A:∀W,dH W a n c j->Calls prog 249 #[.agg #[],db k (.slice a n c) b h g f,.int .i64 id] W fun e w'=>e= .returned (.string i)/\Below W.heap.size W w'):Calls prog 21 #[.int .i64 3,db k (.slice a n c) b h g f,.int .i64 id] w fun e w'=>e= .returned (.tuple #[.string i,.int .i64 0])/\Below w.heap.size w w':=by
 have p:∀x,Below w.heap.size w (w.alloc x):=fun x=>cU
 have q:=cb p;clear p;have C:Hid (∀x,Calls prog 48 #[db k (.slice a n c) b h g f] (w.alloc x) fun e w'=>e= .returned (.bool true)/\Below (w.alloc x).heap.size (w.alloc x) w'):=fun x=>by have:=mI k (.slice a n c) j b h g f _ (u.later (q.out x)).strs z;rwa [m]at this
 have r:Hid (∀W,Calls prog 250 #[.agg #[],db k (.slice a n c) b h g f,.int .i64 id] W fun e w'=>e= .returned (.bool true)/\Below W.heap.size W w'):=fun W=>Bm _ id W
 have v:Hid (∀W,Below w.heap.size w W->Calls prog 249 #[.agg #[],db k (.slice a n c) b h g f,.int .i64 id] W fun e w'=>e= .returned (.string i)/\Below W.heap.size W w'):=fun W D=>A W (u.later D)
 have E:=AE;have F:=NB;clear u z m A o;unfold db at*;go_enter mm,ld;go_wp2_with fail
 go_at_call 47;refine(OO _).mono ?_;rintro e w' ⟨rfl,H⟩;subst H;go_wp2_with fail
 go_at_call 48;refine(C.out _).mono ?_;rintro e B ⟨rfl,d⟩;obtain⟨I,J⟩:=jE d;have K:w.heap.size<B.heap.size:=by have:=d.size;simp at this;omega
 have L:=cb d;clear d;go_wp2_with fail
 go_at_call 250;refine(r.out _).mono ?_;rintro e M ⟨rfl,l⟩;obtain⟨N,O⟩:=jE l;have P:=cb l;clear l;go_wp2_with fail
 go_at_call 249;have y:Below w.heap.size w B:=(q.out _).trans (L.out.mono (by simp));have t:Below w.heap.size w M:=y.trans (P.out.mono y.size);refine(v.out _ t).mono ?_;rintro e R ⟨rfl,s⟩;have Q:=cb (t.trans (s.mono t.size));clear y t s;go_wp2;go_ret2;exact⟨rfl,Q.out⟩
theorem QQ (r:dH w a n c j)(s:b.size<=maxLen)(l:fp k j b=true)(d:gI k n id=false):Calls prog 21 #[.int .i64 2,db k (.slice a n c) b h g f,.int .i64 id] w fun e w'=>e= .returned (.tuple #[.string ⟨#[]⟩,.int .i64 1])/\Below w.heap.size w w':=by
 have m:∀x,Below w.heap.size w (w.alloc x):=fun x=>cU
 have o:=cb m;clear m;have u:Hid (∀x,Calls prog 48 #[db k (.slice a n c) b h g f] (w.alloc x) fun e w'=>e= .returned (.bool true)/\Below (w.alloc x).heap.size (w.alloc x) w'):=fun x=>by have:=mI k (.slice a n c) j b h g f _ (r.later (o.out x)).strs s;rwa [l]at this
 have p:Hid (∀W,Calls prog 243 #[.agg #[],db k (.slice a n c) b h g f,.int .i64 id] W fun e w'=>e= .returned (.bool false)/\Below W.heap.size W w'):=fun W=>by have:=(uS k a n c b h g f id W);rwa [d]at this
 have v:=tO;clear r s l d;unfold db at*;go_enter mm,ld;go_wp2_with fail
 go_at_call 47;refine(NY _).mono ?_;rintro e w' ⟨rfl,y⟩;subst y;go_wp2_with fail
 go_at_call 48;refine(u.out _).mono ?_;rintro e z ⟨rfl,i⟩;obtain⟨A,B⟩:=jE i;have C:=cb i;clear i;go_wp2_with fail
 go_at_call 243;refine(p.out _).mono ?_;rintro e E ⟨rfl,q⟩;have D:=cb q;clear q;go_wp2;go_ret2;have t:Below w.heap.size w z:=(o.out _).trans (C.out.mono (by simp));exact⟨rfl,t.trans (D.out.mono t.size)⟩
end
theorem QP (d k:Int)(a:Option Addr)(n c:Nat)(b h:ByteArray)(g:Bool)(f id:Int)(w:World)(i:d≠1)(g2:d≠2)(j:d≠3):Calls prog 21 #[.int .i64 d,db k (.slice a n c) b h g f,.int .i64 id] w fun e w'=>e= .returned (.tuple #[.string ⟨#[]⟩,.int .i64 1])/\Below w.heap.size w w':=by
 have HO:=cb (fun W=>QJ d W i g2 j);go_enter mm,ld;go_wp2_with fail
 refine(HO.out _).mono ?_;rintro e w' ⟨rfl,l⟩;go_wp2;go_ret2;exact⟨rfl,cU⟩
theorem oq (g p c:Nat)(x y:Nat)(w:World)(a:x<256)(b:y<256)(d:2<=c)(f:g<w.heap.size)(h:w.cell? ⟨g,p,none⟩=some (.int .u8 x))(i:w.cell? ⟨g,p+1,none⟩=some (.int .u8 y)):Calls prog 163 #[.slice (some ⟨g,p,none⟩) 2 c] w fun e w'=>e= .returned (.int .i64 (x+256*y:Nat))/\∃q,w'=w.drewN q:=by
 go_enter func163,ntmps163;go_wp2_with fail
 go_quiet (fail)
 go_wp2;go_ret;refine⟨?_,_,rfl⟩;show Ending.returned (Value.int IntKind.i64 (x+y*256))=_;congr 2;omega
def eK (k:Int)(d:Value)(c a:ByteArray)(e:Bool)(id b:Int)(f:Bool):Value:= .agg #[.int .i64 k,d,.string c,.string a,.bool e,.int .i64 id,.int .i64 b,.bool f]
section
variable (a:ByteArray)(b:Int)(w:World)
theorem jP:Calls prog 218 #[.string a,.int .i64 b] w fun e w'=>e= .returned (eK 4 (.slice none 0 0) ⟨#[]⟩ a false 0 b false)/\Below w.heap.size w w':=by
 go_wp2;refine cE (v:=eK 4 (.slice none 0 0) ⟨#[]⟩ a false 0 b false) (by simp[results,results218,go_sem,eK]) rfl ⟨rfl,cU⟩
theorem Qi:Calls prog 247 #[eK 4 (.slice none 0 0) ⟨#[]⟩ a false 0 b false] w fun e w'=>e= .returned (eK 4 (.slice none 0 0) ⟨#[]⟩ a true 0 b false)/\Below w.heap.size w w':=by
 unfold eK;go_wp2;refine cE (v:= .agg #[.int .i64 4,.slice none 0 0,.string ⟨#[]⟩,.string a,.bool true,.int .i64 0,.int .i64 b,.bool false]) (by simp[results,results247,go_sem]) rfl ⟨rfl,?_⟩;exact(cU).alloc (by simp) _
end
def ep (a:List UInt8)(i:Nat):Nat:=(a.getD i 0).toNat
def dM (a:List UInt8)(i:Nat):Nat:=ep a i+256*ep a (i+1)
theorem fL (a:List UInt8)(i:Nat):ep a i<256:=eX _
structure jZ (w:World)(g o n c:Nat)(bs:List UInt8):Prop where
 lt:g<w.heap.size
 len:bs.length=n
 cap:n<=c
 small:n<=1000000000000000
 Qb:∀(i:Nat),i<n->w.cell? ⟨g,o+i,none⟩=some (.int .u8 (ep bs i))
def iR (a:List UInt8):Bool:=decide (ep a 0=1)&&decide (1<=ep a 1)&&decide (ep a 1<=3)&&decide (1<=ep a 2)&&decide (ep a 2<=8)&&(decide (dM a 3=0) || (decide (ep a 1=2)&&decide (dM a 3<=40)))
theorem nh (g o n c:Nat)(a:List UInt8)(w:World)(A:jZ w g o n c a)(H:7<=n):Calls prog 246 #[.slice (some ⟨g,o,none⟩) n c] w fun e w'=>e= .returned (.bool (iR a))/\∃q,w'=w.drewN q:=by
 obtain⟨j,I,J,K,b⟩:=A;have B:=b 0 (by omega);have L:=b 1 (by omega);have M:=b 2 (by omega);have v:=b 3 (by omega);have x:=b 4 (by omega);have C:Hid (∀W:World,W.heap=w.heap->∀i,2<=i->Calls prog 163 #[.slice (some ⟨g,o+3,none⟩) 2 i] W fun e w'=>e= .returned (.int .i64 (dM a 3))/\∃q,w'=W.drewN q):=fun W k i l=>
  oq g (o+3) i _ _ W (fL a 3) (fL a 4) l (by rw[k];exact j) ((cS (by rw[k])).trans v) ((cS (by rw[k])).trans x)
 clear b v x;have O:=fL a 0;have P:=fL a 1;have Q:=fL a 2;have d:Hid (iR a=(decide (ep a 0=1)&&decide (1<=ep a 1)&&decide (ep a 1<=3)&&decide (1<=ep a 2)&&decide (ep a 2<=8)&&(decide (dM a 3=0) || (decide (ep a 1=2)&&decide (dM a 3<=40))))):=(show _=_ from rfl)
 generalize iR a=R at*;generalize ep a 0=D at*;generalize ep a 1=f at*;generalize ep a 2=y at*;generalize dM a 3=N at*;have S:(1:Int)<(n:Int):=by omega
 have T:(2:Int)<(n:Int):=by omega
 have U:¬(n:Int)<=1:=by omega
 have V:(5:Int)<=(c:Int):=by omega
 have X:0<n:=by omega
 have Y:IntKind.i64.wrap (f:Int)=f:=eM _ (by omega) (by omega);have Z:¬c=3:=by omega
 go_enter func246,ntmps246;go_wp2_with fail
 go_quiet ((go_at_call 163;exact Calls.quiet_of (C.out _ (World.heap_drewN _ _) _ (by omega))))
 simp only[im]at B;by_cases m:D=1;case neg=>
  go_wp2;go_ret;exact⟨cY (by rw[d.out];simp;omega),_,rfl⟩
 by_cases E:1<=f;case neg=>
  go_wp2;go_ret;exact⟨cY (by rw[d.out];simp;omega),_,rfl⟩
 by_cases F:f<=3;case neg=>
  go_wp2;go_ret;exact⟨cY (by rw[d.out];simp;omega),_,rfl⟩
 by_cases p:1<=y;case neg=>
  go_wp2;go_ret;exact⟨cY (by rw[d.out];simp;omega),_,rfl⟩
 by_cases r:y<=8;case neg=>
  go_wp2;go_ret;exact⟨cY (by rw[d.out];simp;omega),_,rfl⟩
 by_cases s:N=0;case pos=>
  go_wp2;go_ret;exact⟨cY (by rw[d.out];simp;omega),_,rfl⟩
 by_cases t:f=2;case neg=>
  go_wp2;go_ret;have h:((N:Int)==0)=false:=by simp;omega
  exact⟨cY (by rw[d.out];simp[h,m,E,F,p,r,s,t]),_,rfl⟩
 by_cases z:N<=40;case neg=>
  go_wp2;go_ret;have h:((N:Int)==0)=false:=by simp;omega
  have u:¬(N:Int)<=40:=by omega
  exact⟨cY (by rw[d.out];simp[h,u,m,p,r,s,t,z]),_,rfl⟩
 go_wp2;go_ret;have h:((N:Int)==0)=false:=by simp;omega
 have u:(N:Int)<=40:=by omega
 exact⟨cY (by rw[d.out];simp[h,u,m,p,r,s,t,z]),_,rfl⟩
variable {D:Nat}{a w w':World}
structure ie (D:Nat)(w w':World):Prop where
 os:w'.os=w.os
 tape:w'.tape=w.tape
 output:w'.output=w.output
 size:w.heap.size<=w'.heap.size
 block:∀k,k<w.heap.size->k≠D->w'.heap[k]?=w.heap[k]?
theorem ie.refl (D:Nat)(w:World):ie D w w:=⟨rfl,rfl,rfl,PC _,fun _ _ _=>rfl⟩
theorem ie.trans {b c:World}(h:ie D a b)(k:ie D b c):ie D a c:=
 ⟨k.os.trans h.os,k.tape.trans h.tape,k.output.trans h.output,cP h.size k.size,fun i d e=>(k.block i (cH d h.size) e).trans (h.block i d e)⟩
theorem ie.dP (h:Below w.heap.size w w'):ie D w w':=⟨h.os,h.tape,h.output,h.size,fun k a _=>h.block k a⟩
theorem ie.drew (h:ie D a w):ie D a w.drew:=⟨h.os,h.tape,h.output,h.size,h.block⟩
theorem ie.drewN (h:ie D a w)(n:Nat):ie D a (w.drewN n):=⟨h.os,h.tape,h.output,h.size,h.block⟩
theorem ie.alloc (h:ie D a w)(o:Obj):ie D a (w.alloc o):=h.trans (.dP ((ct _ _).alloc (PC _) o))
theorem ie.setCell (h:ie D a w)(i:Nat)(v:Value):ie D a (w.setCell ⟨D,i,none⟩ v):=
 h.trans ⟨by simp[World.setCell],by simp,by simp[World.setCell],by simp,fun k _ b=>cz w ⟨D,i,none⟩ v k b⟩
theorem ie.below {B:Nat}(h:ie D w w')(b:B<=D)(a:B<=w.heap.size):Below B w w':=⟨h.os,h.tape,h.output,h.size,fun k c=>h.block k (by omega) (by omega)⟩
def kU:Value:= .agg #[.int .i64 0,.slice none 0 0,.string ⟨#[]⟩,.string ⟨#[]⟩,.bool false,.int .i64 0,.int .i64 0,.bool false]
variable {w W:World}{a:List UInt8}
def bytesOf (a:List UInt8)(i k:Nat):ByteArray:=⟨((a.drop i).take k).toArray⟩
theorem jZ.later {w':World}{g o n c:Nat}(h:jZ w g o n c a)(hb:Below w.heap.size w w'):jZ w' g o n c a:=
 ⟨cH h.lt hb.size,h.len,h.cap,h.small,fun i b=>(hb.cell (p:=⟨g,o+i,none⟩) h.lt).trans (h.Qb i b)⟩
theorem oU (W:World)(g o n c i k e:Nat)(a:List UInt8)(h:jZ W g o n c a)(l:i+k<=n):(convert 80 9 (.slice (some ⟨g,o+i,none⟩) k e)).run prog W= .ok (.string (bytesOf a i k)) W:=by
 have m:((a.drop i).take k).length=k:=by simp;have:=h.len;omega
 rw[iY (P:=prog) W 80 5 fg kP g (o+i) k _ (((a.drop i).take k).map fun b=>(b.toNat:Int)) (by simp_all) (fun j p=>?_) 9 fi,sC]
 .rfl
 have d:i+j<a.length:=by grind
 have f:((a.drop i).take k)[j]?=some a[i+j]:=by simp_all
 rw[Nat.add_assoc,h.Qb (i+j) (by omega)];rw[List.getD,cL,f];simp[ep,List.getD,List.getElem?_eq_getElem d]
theorem uX (g o n c:Nat)(a:Option Addr)(w:World)(d:n<7):Calls prog 244 #[.agg #[],.slice a n c] w fun e w'=>e= .returned kU/\Below w.heap.size w w':=by
 have b:(n:Int)<7:=by omega
 go_wp2;refine cE (v:=kU) (by simp[results,results244,go_sem,kU]) rfl ⟨rfl,cU.alloc (by simp) _⟩
structure Jm (W:World)(R:Nat):Prop where
 all:W.cell? ⟨R,0,none⟩=some (.int .i64 0)/\W.cell? ⟨R,1,none⟩=some (.slice none 0 0)/\W.cell? ⟨R,2,none⟩=some (.string ⟨#[]⟩)/\W.cell? ⟨R,3,none⟩=some (.string ⟨#[]⟩)/\W.cell? ⟨R,4,none⟩=some (.bool false)/\W.cell? ⟨R,5,none⟩=some (.int .i64 0)/\W.cell? ⟨R,6,none⟩=some (.int .i64 0)/\W.cell? ⟨R,7,none⟩=some (.bool false)
 free:∀i,W.frozen? ⟨R,i,none⟩=false
theorem zn {x:Obj}(h:Below ((w.alloc x).alloc (.cells #[.int .i64 0,.slice none 0 0,.string ⟨#[]⟩,.string ⟨#[]⟩,.bool false,.int .i64 0,.int .i64 0,.bool false] 255)).heap.size ((w.alloc x).alloc (.cells #[.int .i64 0,.slice none 0 0,.string ⟨#[]⟩,.string ⟨#[]⟩,.bool false,.int .i64 0,.int .i64 0,.bool false] 255)) W):Jm W (w.heap.size+1):=by
 have b:=du (w.alloc x) (.cells #[.int .i64 0,.slice none 0 0,.string ⟨#[]⟩,.string ⟨#[]⟩,.bool false,.int .i64 0,.int .i64 0,.bool false] 255);rw[cF]at b;have a:=(h.block (w.heap.size+1) (by simp)).trans b;exact⟨⟨cn a 0,cn a 1,cn a 2,cn a 3,cn a 4,cn a 5,cn a 6,cn a 7⟩,dN a⟩
theorem qA (h:Below w.heap.size w W){R:Nat}(j:w.heap.size<=R)(a b c d e f g i:Value):Below w.heap.size w ((((((((W.setCell ⟨R,0,none⟩ a).setCell ⟨R,1,none⟩ b).setCell ⟨R,2,none⟩ c).setCell ⟨R,3,none⟩ d).setCell ⟨R,4,none⟩ e).setCell ⟨R,5,none⟩ f).setCell ⟨R,6,none⟩ g).setCell ⟨R,7,none⟩ i):=
 (((((((h.setCell (p:=⟨R,0,none⟩) j _).setCell (p:=⟨R,1,none⟩) j _).setCell (p:=⟨R,2,none⟩) j _).setCell (p:=⟨R,3,none⟩) j _).setCell (p:=⟨R,4,none⟩) j _).setCell (p:=⟨R,5,none⟩) j _).setCell (p:=⟨R,6,none⟩) j _).setCell (p:=⟨R,7,none⟩) j _
theorem Ey (g o n c:Nat)(a:List UInt8)(w:World)(l:jZ w g o n c a)(m:7<=n)(F:iR a=false):Calls prog 244 #[.agg #[],.slice (some ⟨g,o,none⟩) n c] w fun e w'=>e= .returned (eK 4 (.slice none 0 0) ⟨#[]⟩ ⟨#[102,111,114,109]⟩ true 0 7 false)/\Below w.heap.size w w':=by
 have p:¬(n:Int)<7:=by omega
 have b:=PE w;have r:=cb (fun W (h:Below w.heap.size w W)=>nh g o n c a W (l.later h) m);go_enter pL,oT;go_wp2_with fail
 refine(r.out _ (b.out _ _)).mono ?_;rintro e H ⟨rfl,q,rfl⟩;go_wp2_with fail
 refine(jP _ _ _).mono ?_;rintro e i ⟨rfl,d⟩;have s:w.heap.size+1<i.heap.size:=by have:=d.size;simp at this;omega
 have j:=cb (d);have t:=cb (Qi ⟨#[102,111,114,109]⟩ 7 i);unfold eK at*;go_wp2_with fail
 refine t.out.mono ?_;rintro e k ⟨rfl,f⟩;have u:Hid (Below w.heap.size w k):=(b.out _ _).trans (((cV (ct _ _) q).trans (j.out.mono (by simp;omega))).trans (f.mono (by omega)));have v:=zn (W:=k) ((((cV (ct _ _) q).trans j.out)).trans (f.mono (by simp;omega)));obtain⟨⟨x,y,z,A,B,C,D,E⟩,I⟩:=v;go_wp2;refine cE (v:=eK 4 (.slice none 0 0) ⟨#[]⟩ ⟨#[102,111,114,109]⟩ true 0 7 false) (by simp[results,results244,go_sem,eK,x,y,z,A,B,C,D,E]) rfl ⟨rfl,?_⟩;exact qA u.out (by omega) _ _ _ _ _ _ _ _
theorem pQ (h:iR a=true):1<=ep a 2/\ep a 2<=8/\dM a 3<=40:=by
 unfold iR at h;simp only[cO,fA,cX]at h;omega
section
variable (g o n c:Nat)(a:List UInt8)(w:World)
theorem CH (b:jZ w g o n c a)(r:7<=n)(s:iR a=true)(l:n<7+ep a 2+dM a 3):Calls prog 244 #[.agg #[],.slice (some ⟨g,o,none⟩) n c] w fun e w'=>e= .returned kU/\Below w.heap.size w w':=by
 have t:¬(n:Int)<7:=by omega
 have d:=PE w;have u:=cb (fun W (h:Below w.heap.size w W)=>nh g o n c a W (b.later h) r);obtain⟨v,x,C⟩:=pQ s;have y:=b.lt;have m:g<w.heap.size+1:=by omega
 have p:=b.cap;have D:=b.Qb 2 (by omega);have z:=b.small;have A:Hid (∀W:World,Below w.heap.size w W->∀f,2<=f->Calls prog 163 #[.slice (some ⟨g,o+3,none⟩) 2 f] W fun e w'=>e= .returned (.int .i64 (dM a 3))/\∃q,w'=W.drewN q):=fun W i f j=>
  oq g (o+3) f _ _ W (fL a 3) (fL a 4) j (b.later i).lt ((b.later i).Qb 3 (by omega)) ((b.later i).Qb 4 (by omega))
 generalize ep a 2=k at*;generalize dM a 3=N at*;have E:IntKind.i64.wrap (k:Int)=k:=eM _ (by omega) (by omega);have F:5<=c:=by omega
 have H:¬c=3:=by omega
 have I:(n:Int)<7+k+N:=by omega
 go_enter pL,oT;go_wp2_with fail
 refine(u.out _ (d.out _ _)).mono ?_;rintro e B ⟨rfl,q,rfl⟩;go_wp2_with fail
 refine(A.out _ (cV (d.out _ _) q) _ (by omega)).mono ?_;rintro e B ⟨rfl,J,rfl⟩;go_wp2;refine cE (v:=kU) (by simp[results,results244,go_sem,kU]) rfl ⟨rfl,?_⟩;exact qA (cV (d.out _ _) _) (by omega) _ _ _ _ _ _ _ _
theorem zv (b:jZ w g o n c a)(F:7<=n)(H:iR a=true)(y:7+ep a 2+dM a 3<=n)(i:iX (bytesOf a 7 (ep a 2))=false):Calls prog 244 #[.agg #[],.slice (some ⟨g,o,none⟩) n c] w fun e w'=>e= .returned (eK 4 (.slice none 0 0) ⟨#[]⟩ ⟨#[102,111,114,109]⟩ true 0 (7+ep a 2+dM a 3) false)/\Below w.heap.size w w':=by
 have I:¬(n:Int)<7:=by omega
 have d:=PE w;have J:=cb (fun W (h:Below w.heap.size w W)=>nh g o n c a W (b.later h) F);obtain⟨K,L,pN⟩:=pQ H;have M:=b.lt;have z:g<w.heap.size+1:=by omega
 have A:=b.cap;have c2:=b.Qb 2 (by omega);have O:=b.small;have P:Hid (∀W:World,Below w.heap.size w W->∀m,2<=m->Calls prog 163 #[.slice (some ⟨g,o+3,none⟩) 2 m] W fun e w'=>e= .returned (.int .i64 (dM a 3))/\∃q,w'=W.drewN q):=fun W j m p=>
  oq g (o+3) m _ _ W (fL a 3) (fL a 4) p (b.later j).lt ((b.later j).Qb 3 (by omega)) ((b.later j).Qb 4 (by omega))
 have r:Hid (∀W,Below w.heap.size w W->∀s,(convert 80 9 (.slice (some ⟨g,o+7,none⟩) (ep a 2) s)).run prog W= .ok (.string (bytesOf a 7 (ep a 2))) W):=fun W j s=>oU W g o n c 7 (ep a 2) s a (b.later j) (by omega)
 have t:(bytesOf a 7 (ep a 2)).size<=maxLen:=by
  show((a.drop 7).take (ep a 2)).toArray.size<=maxLen;unfold maxLen;simp;omega
 have B:=cb (fun W=>pT (bytesOf a 7 (ep a 2)) W t);rw[i]at B;generalize bytesOf a 7 (ep a 2)=Q at*;generalize ep a 2=f at*;generalize dM a 3=N at*;have u:IntKind.i64.wrap (f:Int)=f:=eM _ (by omega) (by omega);have n5:5<=c:=by omega
 have nc:¬c=3:=by omega
 have R:¬c=7:=by omega
 have he:¬(n:Int)<7+f+N:=by omega
 have S:7+f<=c:=by omega
 go_enter pL,oT;go_wp2_with fail
 refine(J.out _ (d.out _ _)).mono ?_;rintro e C ⟨rfl,q,rfl⟩;go_wp2_with fail
 refine(P.out _ (cV (d.out _ _) q) _ (by omega)).mono ?_;rintro e C ⟨rfl,v,rfl⟩;have T:=r.out (((w.alloc (.cells #[] 161)).alloc (.cells #[.int .i64 0,.slice none 0 0,.string ⟨#[]⟩,.string ⟨#[]⟩,.bool false,.int .i64 0,.int .i64 0,.bool false] 255)).drewN (q+v)) (cV (d.out _ _) _) (c-7);go_wp2_with fail
 refine(B.out _).mono ?_;rintro e C ⟨rfl,x⟩;subst x;go_wp2_with fail
 refine(jP _ _ _).mono ?_;rintro e u ⟨rfl,k⟩;have U:w.heap.size+1<u.heap.size:=by have:=k.size;simp at this;omega
 have D:=cb (k);have V:=cb (Qi ⟨#[102,111,114,109]⟩ (7+f+N) u);unfold eK at*;go_wp2_with fail
 refine V.out.mono ?_;rintro e E ⟨rfl,l⟩;have X:Hid (Below w.heap.size w E):=(d.out _ _).trans (((cV (ct _ _) (q+v)).trans (D.out.mono (by simp;omega))).trans (l.mono (by omega)));have Y:=zn (W:=E) ((((cV (ct _ _) (q+v)).trans D.out)).trans (l.mono (by simp;omega)));obtain⟨⟨Z,r1,r2,r3,r4,r5,r6,r7⟩,rf⟩:=Y;go_wp2;refine cE (v:=eK 4 (.slice none 0 0) ⟨#[]⟩ ⟨#[102,111,114,109]⟩ true 0 (7+f+N) false) (by simp[results,results244,go_sem,eK,Z,r1,r2,r3,r4,r5,r6,r7]) rfl ⟨rfl,?_⟩;exact qA X.out (by omega) _ _ _ _ _ _ _ _
end
structure iO where
 kind:Int
 keys:List ByteArray
 val:ByteArray
 word:ByteArray
 fatal:Bool
 id:Int
structure iC where
 c:iO
 used:Nat
 skip:Bool
def PJ (l:List UInt8):ByteArray:=⟨l.toArray⟩
def eY:ByteArray:=⟨#[]⟩
def fU:ByteArray:=⟨#[102,111,114,109]⟩
def vk:ByteArray:=⟨#[108,111,110,103]⟩
def Jx:ByteArray:=⟨#[98,105,103]⟩
def iG:ByteArray:=⟨#[100,97,116,97]⟩
def fj (a:ByteArray)(b:Bool):iO:=⟨4,[],eY,a,b,0⟩
def uN (a:List UInt8):Option iC:=
 if a.length<7 then none
 else if iR a=false then some ⟨fj fU true,7,false⟩
 else if a.length<7+ep a 2+dM a 3 then none
 else if iX (bytesOf a 7 (ep a 2))=false then some ⟨fj fU true,7+ep a 2+dM a 3,false⟩
 else some ⟨⟨ep a 1,[bytesOf a 7 (ep a 2)],bytesOf a (7+ep a 2) (dM a 3),eY,false,dM a 5⟩,7+ep a 2+dM a 3,false⟩
def gj (s:ByteArray):Int:=if s=⟨#[103,101,116]⟩then 1 else if s=⟨#[115,101,116]⟩then 2 else if s=⟨#[100,101,108]⟩then 3 else 0
def iA:List UInt8->List (List UInt8)
 | []=>[[]]
 |b::l=>if b=32 then []::iA l else match iA l with|h::t=>(b::h)::t| []=>[[b]]
def eP (l:List UInt8):List ByteArray:=(iA l).map PJ
def jd (l:List UInt8):Nat:=l.foldl (fun n b=>n*10+(b.toNat-48)) 0
def om (s:ByteArray):Option Nat:=
 if s.size<1\/3<s.size\/(1<s.size/\s.data.toList.getD 0 0=48)then none
 else if s.data.toList.all PH then some (jd s.data.toList)else none
def iZ (a:List ByteArray):Option Nat:=
 if a.length=3/\gj (a.getD 0 eY)=2/\iX (a.getD 1 eY)=true then om (a.getD 2 eY)else none
def sE (c:List UInt8)(b:Nat)(d:ByteArray)(a:Nat):Option iC:=
 if 40<a then some ⟨fj Jx false,b,false⟩
 else if c.length<=b+a then none
 else if c.getD (b+a) 0≠10 then some ⟨fj iG false,b+a,true⟩
 else some ⟨⟨2,[d],bytesOf c b a,eY,false,0⟩,b+a+1,false⟩
def ph (a:List UInt8)(e:Nat):Option iC:=
 match iZ (eP (a.take e))with
 |some b=>sE a (e+1) ((eP (a.take e)).getD 1 eY) b
 |none=>
  if gj ((eP (a.take e)).getD 0 eY)=2\/fp (gj ((eP (a.take e)).getD 0 eY)) ((eP (a.take e)).drop 1) eY=false
  then some ⟨fj fU false,e+1,false⟩
  else some ⟨⟨gj ((eP (a.take e)).getD 0 eY),(eP (a.take e)).drop 1,eY,eY,false,0⟩,e+1,false⟩
def vO (a:List UInt8):Option iC:=
 if 0<=Go.Lib.indexByte (a.take 61) 10 then ph a (Go.Lib.indexByte (a.take 61) 10).toNat
 else if 60<a.length then some ⟨fj vk false,61,true⟩
 else none
structure WS where
 pos:Nat
 fG:Bool
 short:Bool
def WS.look (n:Nat)(s:WS):WS:=⟨s.pos,s.fG,s.short || decide (s.pos=n)⟩
def dY (a:List UInt8)(c:UInt8)(s:WS):WS:=
 if(s.look a.length).short || s.fG then s.look a.length
 else if a.getD s.pos 0=c then⟨s.pos+1,false,false⟩else⟨s.pos,true,false⟩
def eJ (d:List UInt8)(b c:Nat):Nat->Nat->Nat->Bool->Nat×WS
 |0,p,n,a=>(0,⟨p,false,true⟩)
 |f+1,p,n,a=>
  if a=false/\d.getD p 0=10 then(n,⟨p+1,false,false⟩)
  else if PH (d.getD p 0)=false\/c<n*10+(ep d p-48)\/(a=true/\ep d p-48<b)\/(a=false/\n=0)then(0,⟨p,true,false⟩)
  else eJ d b c f (p+1) (n*10+(ep d p-48)) false
def fC (c:List UInt8)(a b:Nat)(s:WS):Nat×WS:=
 if(s.look c.length).short || s.fG then(0,s.look c.length)else eJ c a b (c.length-s.pos) s.pos 0 true
def ib (a:List UInt8)(n:Nat)(s:WS):ByteArray×WS:=
 if s.fG || s.short then(eY,s)
 else if a.length<s.pos+n then(eY,⟨s.pos,s.fG,true⟩)
 else(bytesOf a s.pos n,⟨s.pos+n,s.fG,s.short⟩)
def mL (a:List UInt8)(s:WS):ByteArray×WS:=
 let c:=fC a 0 40 (dY a 36 s)
 let t:=ib a c.1 c.2
 (t.1,dY a 10 t.2)
def fO (b:List UInt8):Nat->WS->List ByteArray->List ByteArray×WS
 |0,s,a=>(a,s)
 |k+1,s,a=>fO b k (mL b s).2 (a++[(mL b s).1])
def gE (e:List ByteArray)(a:Nat):iC:=
 let k:=gj (e.getD 0 eY)
 let c:=e.drop 1
 let b:=if k=2 then(if c.length=2 then c.take 1 else [])else c
 let d:=if k=2/\c.length=2 then c.getD 1 eY else eY
 if fp k b d then⟨⟨k,b,d,eY,false,0⟩,a,false⟩else⟨fj iG false,a,false⟩
def zq (a:List UInt8):Option iC:=
 let c:=fC a 1 5 (dY a 42 ⟨0,false,false⟩)
 let t:=fO a c.1 c.2 []
 if t.2.fG then some ⟨fj fU true,t.2.pos+1,false⟩
 else if t.2.short then none
 else some (gE t.1 t.2.pos)
def fw (d:Int)(a:List UInt8):Option iC:=if d=1 then vO a else if d=2 then uN a else zq a
end Go.Proofs.YtlonjggfnleolaaGreatDoor
