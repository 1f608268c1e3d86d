import Derived.Test.YtlonjggfnleolaaGreatDoorRnD
set_option linter.unusedVariables false
set_option maxHeartbeats 4000000
set_option maxRecDepth 100000
namespace Go.Proofs.YtlonjggfnleolaaGreatDoor
open Go.RowKit Go.Shelf Go.Proofs.Tryz
variable {w:World}{v:ByteArray}{x:QS}{d:Int}{j:Nat}
theorem Dg {v:sH}(h:mX w v x)(F:x.n=0)(u:x.fa=false)(y:x.re=false)(s:∀p∈x.ps,tV x.c.kind p)(W:1<=x.ps.length)(X:x.ps.length<=4)(K:x.c.kind=2\/x.c.kind=3):Calls prog 174 #[.pointer (some ⟨v.B,0,none⟩)] w fun e w'=>uP w w' x e:=by
 have j:=Jn F u y s;have r:=h.eC;unfold Rb at r;obtain⟨Y,Z,l⟩:=jr h.row;have L:=h.len;rw[l]at r;have z:=cn r 0;have M:=cn r 6;simp at z M;have N:=cA r;obtain⟨C,c⟩:∃C,x.ps[0]?=some C:=⟨_,cp (by omega)⟩
 obtain⟨b,d⟩:∃b,v.bs[0]?=some b:=⟨_,cp (by omega)⟩
 obtain⟨g,O,H,e2,P⟩:=pE h.row (by simp) (i:=0) (x:=dC b) (by rw[cL,d];rfl);rw[l]at H;cases H;unfold dC at P;obtain⟨I,vl,rfl,D,E⟩:=j C (cu c);obtain⟨o,id,i⟩:=h.ok 0 b _ d c;unfold xe at i;have Q:=cn i 3;simp at Q;have R:=cA i;have S:v.bs.length<=4:=by omega
 have T:(0:Int)<(v.bs.length:Int):=by omega
 have k:(x.ps.map PS.yes).headD false=decide (I=0):=by
  cases t:x.ps with
  |nil=>rw[t]at c;cases c
  |cons q ps=>
   rw[t]at c;simp at c;simp[c,PS.yes]
 have m:=cb (show x.c.kind≠1 by omega);have U:¬v.B=w.heap.size:=by omega
 have V:¬g=w.heap.size:=by omega
 have J:¬b=w.heap.size:=by omega
 have a:x.ak=if x.c.kind=2 then 2 else if decide (I=0)=true then 3 else 4:=by
  unfold QS.ak;rw[u,y,k];simp;omega
 have f:Hid (∀(A:Obj) (q:Nat),Below w.heap.size w (w.alloc A)):=fun A q=>cU
 unfold uP;clear h j r l c d i F u y s k E;generalize v.B=B at*;generalize v.bs.length=n at*;rcases K with e|e
 .rw[e]at a z;rw[cN rfl]at a;rw[a];go_wp2;refine cE (v:=eW 2 (.slice none 0 0) (.slice none 0 0) ⟨#[]⟩) (by simp[results,results174,go_sem,eW]) rfl ⟨none,0,0,none,0,0,rfl,f.out _ 0,fun _=>⟨rfl,rfl,rfl,rfl,rfl,rfl⟩,fun e=>absurd e m.out,fun b d=>(by cases d),fun b d=>(by cases d)⟩
 .rw[e]at a z;rw[cD (by decide)]at a;rcases D with rfl|rfl
  .rw[cN (by decide)]at a;rw[a];go_wp2;refine cE (v:=eW 3 (.slice none 0 0) (.slice none 0 0) ⟨#[]⟩) (by simp[results,results174,go_sem,eW]) rfl ⟨none,0,0,none,0,0,rfl,f.out _ 0,fun _=>⟨rfl,rfl,rfl,rfl,rfl,rfl⟩,fun e=>absurd e m.out,fun b d=>(by cases d),fun b d=>(by cases d)⟩
  .rw[cD (by decide)]at a;rw[a];go_wp2;refine cE (v:=eW 4 (.slice none 0 0) (.slice none 0 0) ⟨#[]⟩) (by simp[results,results174,go_sem,eW]) rfl ⟨none,0,0,none,0,0,rfl,f.out _ 0,fun _=>⟨rfl,rfl,rfl,rfl,rfl,rfl⟩,fun e=>absurd e m.out,fun b d=>(by cases d),fun b d=>(by cases d)⟩
theorem Mp {v:sH}(h:mX w v x)(b:x.n=0)(c:x.fa=false)(f:x.re=false)(a:oJ d x)(g:x.c.keys≠[]):Calls prog 174 #[.pointer (some ⟨v.B,0,none⟩)] w fun e w'=>uP w w' x e:=by
 have i:=a.len;have j:=pH.2 g;have k:=a.w.cm.k4;rcases a.w.cm.right g with e|e|e
 .exact Mo h b c f a.ps (by omega) (by omega) e
 .exact Dg h b c f a.ps (by omega) (by omega) (.inl e)
 .exact Dg h b c f a.ps (by omega) (by omega) (.inr e)
theorem DG (d b a:Int)(c:List ByteArray)(f:List Bool)(g:List ByteArray)(e:ByteArray)(id:Int)(h:a≠1):gZ d b a c f g e id=gZ d b a c [] [] e id:=by
 unfold gZ;rw[cD h,cD h,cD h,cD h,cD h,cD h]
theorem zs (c:Int)(d:List ByteArray)(a:ByteArray)(b:Int)(f:List Bool)(g:List ByteArray)(e:ByteArray)(h:b≠1):eI c d a b f g e=eI c d a b [] [] e:=by
 unfold eI;rw[cD h,cD h]
theorem Dp {W:World}(t:d=1\/d=2\/d=3)(m:oJ d x)(n:x.c.keys≠[]){b:Option Addr}{c:Nat}(q:dH W b x.c.keys.length c x.c.keys){f g:Option Addr}{h i j k:Nat}(u:x.ak≠1->f=none/\h=0/\i=0/\g=none/\j=0/\k=0)(v:x.ak=1->eZ W f h i (x.ps.map PS.yes)/\dH W g j k (x.ps.map PS.val)):Calls prog 104 #[.int .i64 d,db x.c.kind (.slice b x.c.keys.length c) x.c.val x.c.word x.c.fatal x.c.id,eW x.ak (.slice f h i) (.slice g j k) x.wd,.int .i64 x.c.id] W fun e w'=>e= .returned (.tuple #[.string (kS d x),.int .i64 0])/\Below W.heap.size W w':=by
 have o:=m.answer n;have r:=m.say t n;have s:=m.w.cm.v40;have a:x.wd.size<=maxLen:=by
  unfold QS.wd maxLen;split
  .decide
  .split<;>decide
 have e:kS d x=gZ d x.c.kind x.ak x.c.keys (x.ps.map PS.yes) (x.ps.map PS.val) x.wd x.c.id:=by unfold kS;rw[cD n]
 rw[e];by_cases l:x.ak=1
 .obtain⟨w,y⟩:=v l;refine(tp d x.c.kind b x.c.keys.length c x.c.keys x.c.val x.c.word x.c.fatal x.c.id x.ak f g h i j k _ _ x.wd x.c.id W q (by unfold maxLen;omega) w y a).mono ?_;rw[o,r];rintro e w' ⟨rfl,p⟩;exact⟨rfl,p⟩
 .obtain⟨rfl,rfl,rfl,rfl,rfl,rfl⟩:=u l;rw[zs _ _ _ _ _ _ _ l]at o;rw[DG _ _ _ _ _ _ _ _ l];refine(tp d x.c.kind b x.c.keys.length c x.c.keys x.c.val x.c.word x.c.fatal x.c.id x.ak none none 0 0 0 0 [] [] x.wd x.c.id W q (by unfold maxLen;omega) ⟨rfl,PC _,by simp,.inr ⟨rfl,rfl⟩⟩ ⟨rfl,PC _,by simp,by simp,.inr ⟨rfl,rfl⟩⟩ a).mono ?_;rw[o,r];rintro e w' ⟨rfl,p⟩;exact⟨rfl,p⟩
def np (x:QS)(j:Nat):ByteArray:=if(x.ps.take j).any PS.bad=true then Qk else if(x.ps.take j).any PS.ref=true then qt else x.c.word
theorem RB (x:QS):np x 0=x.c.word:=by unfold np;simp
theorem qj {a:Type}(l:List a)(j:Nat)(p:a)(f:a->Bool)(h:l[j]?=some p):(l.take (j+1)).any f=((l.take j).any f || f p):=by
 rw[eV,h,List.any_append];simp
theorem Cy:Qk.toList.isEmpty=false:=by decide+kernel
theorem Dq:qt.toList.isEmpty=false:=by decide+kernel
theorem MI (h:x.ps[j]?=some .fl):np x (j+1)=Qk:=by
 unfold np;rw[qj _ _ _ _ h];simp[PS.bad]
theorem MH {a:Nat}(h:x.ps[j]?=some (.an a v))(b:a≠2):np x (j+1)=np x j:=by
 unfold np;rw[qj _ _ _ _ h,qj _ _ _ _ h];simp[PS.bad,PS.ref,b]
theorem RV (h:x.ps[j]?=some (.an 2 v))(a:(np x j).toList.isEmpty=true):np x (j+1)=qt:=by
 have b:(x.ps.take j).any PS.bad=false:=by
  cases b:(x.ps.take j).any PS.bad with
  |false=>rfl
  |true=>
   unfold np at a;rw[cN b,Cy]at a;cases a
 unfold np;rw[qj _ _ _ _ h,qj _ _ _ _ h,b];simp[PS.bad,PS.ref]
theorem RA (h:x.ps[j]?=some (.an 2 v))(d:x.c.word=eY)(a:(np x j).toList.isEmpty=false):np x (j+1)=np x j:=by
 unfold np at a⊢;rw[qj _ _ _ _ h,qj _ _ _ _ h];by_cases e:(x.ps.take j).any PS.bad=true
 .simp[e]
 .have b:(x.ps.take j).any PS.bad=false:=by grind
  rw[b]at a⊢;by_cases f:(x.ps.take j).any PS.ref=true
  .simp[PS.bad,f]
  .have c:(x.ps.take j).any PS.ref=false:=by simp_all
   rw[c,d,cD (by decide),cD (by decide),uV]at a;cases a
theorem DN (x:QS)(a:x.c.word=eY):np x x.ps.length=x.wd:=by
 unfold np QS.wd QS.fa QS.re;rw[gd,a];rfl
structure pB (w wr:World)(x:QS)(j:Nat):Prop where
 jx:Below w.heap.size w wr
 at_:wr.heap[w.heap.size]?=some (.cells #[.int .i64 5,.slice none 0 0,.slice none 0 0,.string (np x j)] 91 (0,0))
 no:∀p∈x.ps.take j,p.opn=false
structure Be (w wr:World)(d:Int)(x:QS)(kv:Value):Prop where
 jx:Below w.heap.size w wr
 at_:∃ak fv vv wd,wr.heap[w.heap.size]?=some (.cells #[.int .i64 ak,fv,vv,.string wd] 91 (0,0))/\∀W',Below wr.heap.size wr W'->Calls prog 104 #[.int .i64 d,.agg #[.int .i64 x.c.kind,kv,.string x.c.val,.string x.c.word,.bool x.c.fatal,.int .i64 x.c.id],.agg #[.int .i64 ak,fv,vv,.string wd],.int .i64 x.c.id] W' fun e w'=>e= .returned (.tuple #[.string (kS d x),.int .i64 0])/\Below W'.heap.size W' w'
variable {v:eE}{s:dE}{x:QS}{a:List QS}{w:World}
theorem jt.told {W f:World}{u:sH}{l:List sH}{d:Value}(h:jt W v s)(hb:Below W.heap.size W f)(z:s.qs=x::a)(m:v.ws=u::l)(c:gW W 263 d (l.map (fun u=>dC u.B)))(n:d.ownBlock=v.wv.ownBlock)(t:List UInt8):jt ((f.setCell ⟨v.K,3,none⟩ (.string (PJ t))).setCell ⟨v.K,2,none⟩ d) ⟨v.K,v.Y,d,l⟩ ⟨s.d,s.st,a,t⟩/\eH v.cM W ((f.setCell ⟨v.K,3,none⟩ (.string (PJ t))).setCell ⟨v.K,2,none⟩ d)/\dB W v.cM (eE.cM ⟨v.K,v.Y,d,l⟩):=by
 have o:=h.eC;have p:=(hb.block v.K (cA o)).trans o;have k:eH [v.K] W ((f.setCell ⟨v.K,3,none⟩ (.string (PJ t))).setCell ⟨v.K,2,none⟩ d):=((eH.dP hb).set (.inl (by simp)) _).set (.inl (by simp)) _;have K:∀{b T:Nat} {Z:Array Value},W.heap[b]?=some (.cells Z T (0,0))->T≠247->b≠v.K:=fun hb r e=>by
  rw[e,o]at hb;unfold Df at hb;simp at hb;exact r hb.2.symm
 have q:∀{b T:Nat} {Z:Array Value},W.heap[b]?=some (.cells Z T (0,0))->T≠247->((f.setCell ⟨v.K,3,none⟩ (.string (PJ t))).setCell ⟨v.K,2,none⟩ d).heap[b]?=W.heap[b]?:=fun hb r=>k.block _ (cA hb) (by grind)
 have j:=h.nd;rw[m,wO]at j;refine⟨⟨(dh (i:=2) (dh (i:=3) p _) _).trans rfl,⟨(q h.rd.at_ (by decide)).trans h.rd.at_,h.rd.ok⟩,c.other (fun g A=>by obtain⟨B,C⟩:=c.eC A;exact q C (by decide)),?_,fun i D E F H=>?_,(fJ.1 j).2.1,fun y L=>h.ok y (by grind)⟩,k.more (fun b hb=>?_),fun b hb=>?_⟩
 .have:=h.len;rw[m,z]at this;simpa using this
 .have w:=h.qu (i+1) D E (by grind) (by grind);exact w.keep k.size (fun b hb=>by obtain⟨Z,T,I,J⟩:=w.kind b hb;exact q I (by rcases J with e|e|e|e<;>(subst e;decide)))
 .simp at hb;rw[hb];simp[eE.cM]
 .refine .inl ?_;unfold eE.cM at hb⊢;rw[n]at hb;rcases cQ.1 hb with e|hb
  .rw[e];simp
  rcases cQ.1 hb with e|hb
  .rw[e];simp
  rcases cr.1 hb with hb|hb
  .exact cJ _ (cJ _ (cr.2 (.inl hb)))
  .refine cJ _ (cJ _ (cr.2 (.inr ?_)));rw[m,wO];exact cr.2 (.inr hb)
theorem Ds (h:jt w v s)(c:s.qs=[]):Calls prog 166 #[.pointer (some ⟨v.K,0,none⟩)] w fun e w'=>e= .returned (.bool false)/\Below w.heap.size w w':=by
 have d:=dw.1 (by rw[h.len,c];rfl);obtain⟨f,wc,a⟩:=h.row.len;have b:=h.eC;rw[a]at b;have g:=cn b 2;go_wp2;go_ret;exact⟨rfl,ct _ _⟩
def Jk (w w':World)(v:eE)(s:dE)(x:QS)(a:List QS)(e:Ending):Prop:=
 (x.n≠0/\e= .returned (.bool false)/\Below w.heap.size w w')\/(x.n=0/\e= .returned (.bool true)/\∃b,jt w' b ⟨s.d,s.st,a,s.told++(kS s.d x).data.toList⟩/\b.K=v.K/\b.Y=v.Y/\eH v.cM w w'/\dB w v.cM b.cM)
theorem Ga (h:jt w v s)(hd:s.d=1\/s.d=2\/s.d=3)(hw:s.qs=x::a)(aA:s.qs.length<=1000)(hT:s.told.length<=100000000000):Calls prog 166 #[.pointer (some ⟨v.K,0,none⟩)] w fun e w'=>Jk w w' v s x a e:=by
 have f:=h.len;rw[hw]at f;obtain⟨u,M,hu⟩:∃u M,v.ws=u::M:=by
  cases aZ:v.ws with
  |nil=>rw[aZ]at f;simp at f
  |cons u M=>exact⟨u,M,rfl⟩
 have hq:=h.qu 0 u x (by rw[hu];rfl) (by rw[hw];rfl);have t:=h.ok x (by rw[hw];simp);obtain⟨g,aB,F,X,a4,bl,aC⟩:=h.row.at_ (i:=0) (x:=dC u.B) (by rw[hu];rfl);rw[dp,hu,dc]at X a4;have k:=h.row;rw[hu,X,eu]at k;have ao:Hid (∀W5,Below w.heap.size w W5->∀wv,wv=Value.slice (some ⟨g,aB+1,none⟩) M.length (F-1)\/(wv=Value.slice (some ⟨g,aB,none⟩) M.length 0/\M.length=0)->jt ((W5.setCell ⟨v.K,3,none⟩ (.string (PJ (s.told++(kS s.d x).data.toList)))).setCell ⟨v.K,2,none⟩ wv) ⟨v.K,v.Y,wv,M⟩ ⟨s.d,s.st,a,s.told++(kS s.d x).data.toList⟩/\eH v.cM w ((W5.setCell ⟨v.K,3,none⟩ (.string (PJ (s.told++(kS s.d x).data.toList)))).setCell ⟨v.K,2,none⟩ wv)/\dB w v.cM (eE.cM ⟨v.K,v.Y,wv,M⟩)):=fun W5 R wv ap=>by
  refine h.told R hw hu ?_ ?_ _
  .rcases ap with e|⟨e,e0⟩
   .have Y:=gW.tail (a:=⟨g,aB,none⟩) (c:=F) (b:=M.map (fun u=>dC u.B)) (by rw[dp];exact k);rw[dp]at Y;rw[e];exact Y
   .have ew:M=[]:=dw.1 e0;rw[e];rw[ew]at k⊢;exact gW.OC k
  .rw[X];rcases ap with e|⟨e,e0⟩<;>rw[e]<;>rfl
 clear k;have bm:M.length<=1000:=by rw[hw]at aA;simp at f aA;rw[hu]at f;simp at f;omega
 unfold dC at aC;rw[im]at aC;have hK:=h.eC;unfold Df at hK;rw[X]at hK;have k0:=cn hK 0;have k2:=cn hK 2;have k3:=cn hK 3;simp at k0 k2 k3;have kf:=dN hK;have a5:=cA hK;have hB:=hq.eC;unfold Rb at hB;obtain⟨pa,pc,aD⟩:=jr hq.row;obtain⟨ka,kc,aN,ag⟩:=hq.keys.strs (by have:=t.w.cm.k4;omega) t.w.cm.k8;rw[aN,aD]at hB;have b3:=cn hB 3;have b6:=cn hB 6;simp at b3 b6;have aE:=cA hB;have aF:=hq.len;have aq:x.ps.length<=4:=by have:=t.len;have:=t.w.cm.k4;omega
 have aO:Hid (∀(r:Nat) (p:PS),x.ps[r]?=some p->∃(g b F o id Z st:Nat) (vl:ByteArray),Value.slice pa u.bs.length pc= .slice (some ⟨g,0,none⟩) u.bs.length F/\g<w.heap.size/\w.cell? ⟨g,r,none⟩=some (.pointer (some ⟨b,0,none⟩))/\w.heap[b]?=some (xe o id Z st vl)/\((p.opn=true/\Z=0)\/(p= .fl/\Z=2)\/(p= .an st vl/\Z=1))):=fun r p c=>by
  have a6:r<u.bs.length:=by rw[aF];exact(cq.1 c).1
  obtain⟨b,R⟩:∃b,u.bs[r]?=some b:=⟨_,cp a6⟩
  obtain⟨g,F,e1,V,N⟩:=pE hq.row (by simp) (i:=r) (x:=dC b) (by rw[cL,R];rfl);rw[aD]at e1;have ah:=hq.ok r b p R c;cases p using PS.el with
  |un=>exact ah.elim
  |op o id=>exact⟨g,b,F,o,id,0,0,_,e1,V,N,ah,.inl ⟨rfl,rfl⟩⟩
  |an st vl=>obtain⟨o,id,h1⟩:=ah;exact⟨g,b,F,o,id,1,st,vl,e1,V,N,h1,.inr (.inr ⟨rfl,rfl⟩)⟩
  |fl=>obtain⟨o,id,h1⟩:=ah;exact⟨g,b,F,o,id,2,0,_,e1,V,N,h1,.inr (.inl ⟨rfl,rfl⟩)⟩
 have z:x.c.keys≠[]->x.c.word=eY:=fun D=>by
  rcases t.w.ok.NG with⟨_,e,_⟩|⟨_,e,_⟩
  .exact e
  .exact absurd e D
 have bn:=si hd t;have bg:=lr s.told;have aP:=cb (vt s.told (kS s.d x));have bh:¬9223372036854775807<(PJ s.told).size+(kS s.d x).size:=by omega
 have O:Hid (∀(wr:World),pB w wr x x.ps.length->(np x x.ps.length).toList.isEmpty=false->Be w wr s.d x (.slice ka x.c.keys.length kc)):=fun wr H I=>by
  refine⟨H.jx,_,_,_,_,H.at_,fun E J=>?_⟩;have ai:Below w.heap.size w E:=H.jx.trans (J.mono H.jx.size);by_cases D:x.c.keys=[]
  .have h4:=t.w.cm.fG D;have e1:np x x.ps.length=x.c.word:=by
    have:x.ps=[]:=dw.1 (by rw[t.len,D];rfl);rw[this];unfold np;simp[this]
   have V:kS s.d x=qW s.d x.c:=by unfold kS;rw[cN D]
   rw[e1,V];have ar:=ag.later ai;rw[D]at ar⊢;exact zQ s.d hd x.c ka kc E ar h4.1 t.w.cm.v40 h4.2 (t.w.wd D) t.w.cm.Su t.w.cm.Sv
  .have aj:=DN x (z D);have S:x.ak=5:=by
    rw[aj]at I;unfold QS.wd at I;unfold QS.ak;by_cases hf:x.fa=true
    .rw[cN hf]
    .rw[cD hf]at I⊢;by_cases hr:x.re=true
     .rw[cN hr]
     .rw[cD hr,show(ByteArray.mk #[]).toList.isEmpty=eY.toList.isEmpty from rfl,uV]at I;cases I
   rw[aj];have:=Dp (W:=E) hd t D (ag.later ai) (f:=none) (g:=none) (h:=0) (i:=0) (j:=0) (k:=0) (fun _=>⟨rfl,rfl,rfl,rfl,rfl,rfl⟩) (fun e=>absurd e (by omega));rw[S]at this;exact this
 have P:Hid (∀(wr:World),pB w wr x x.ps.length->(np x x.ps.length).toList.isEmpty=true->Calls prog 174 #[.pointer (some ⟨u.B,0,none⟩)] wr fun e w'=>∃(ak:Int) (fa:Option Addr) (fn fc:Nat) (va:Option Addr) (vn vc:Nat),e= .returned (.agg #[.int .i64 ak,.slice fa fn fc,.slice va vn vc,.string ⟨#[]⟩])/\Below wr.heap.size wr w'/\Be w ((((w'.setCell ⟨w.heap.size,0,none⟩ (.int .i64 ak)).setCell ⟨w.heap.size,1,none⟩ (.slice fa fn fc)).setCell ⟨w.heap.size,2,none⟩ (.slice va vn vc)).setCell ⟨w.heap.size,3,none⟩ (.string ⟨#[]⟩)) s.d x (.slice ka x.c.keys.length kc)):=fun wr H I=>by
  have D:x.c.keys≠[]:=fun D=>by
   have e1:np x x.ps.length=x.c.word:=by
    have:x.ps=[]:=dw.1 (by rw[t.len,D];rfl);rw[this];unfold np;simp[this]
   rw[e1]at I;have h1:=t.w.wd D;rw[rO I]at h1;exact absurd h1 (by decide)
  have aj:=DN x (z D);rw[aj]at I;have hf:x.fa=false:=by
   cases hf:x.fa with
   |false=>rfl
   |true=>unfold QS.wd at I;rw[cN hf,Cy]at I;cases I
  have hr:x.re=false:=by
   cases hr:x.re with
   |false=>rfl
   |true=>unfold QS.wd at I;rw[cD (by simp[hf]),cN hr,Dq]at I;cases I
  have hn:x.n=0:=by
   unfold QS.n;rw[kE];intro p c;have:=H.no p (by rw[gd];exact c);simp[this]
  have aQ:x.wd=⟨#[]⟩:=by unfold QS.wd;rw[cD (by simp[hf]),cD (by simp[hr])]
  have a7:=hq.keep H.jx.size (fun b R=>H.jx.block b (hq.old b R));refine(Mp a7 hn hf hr t D).mono ?_;rintro e w' ⟨fa,fn,fc,va,vn,vc,rfl,c1,c2,c3,c4,c5⟩;refine⟨x.ak,fa,fn,fc,va,vn,vc,rfl,c1,?_⟩;have hA:=(c1.block _ (cA H.at_)).trans H.at_;have aa:=cA H.at_;have kb:Below w.heap.size w ((((w'.setCell ⟨w.heap.size,0,none⟩ (.int .i64 x.ak)).setCell ⟨w.heap.size,1,none⟩ (.slice fa fn fc)).setCell ⟨w.heap.size,2,none⟩ (.slice va vn vc)).setCell ⟨w.heap.size,3,none⟩ (.string ⟨#[]⟩)):=((((H.jx.trans (c1.mono H.jx.size)).setCell (PC _) _).setCell (PC _) _).setCell (PC _) _).setCell (PC _) _;have kk:∀b,b≠w.heap.size->((((w'.setCell ⟨w.heap.size,0,none⟩ (.int .i64 x.ak)).setCell ⟨w.heap.size,1,none⟩ (.slice fa fn fc)).setCell ⟨w.heap.size,2,none⟩ (.slice va vn vc)).setCell ⟨w.heap.size,3,none⟩ (.string ⟨#[]⟩)).heap[b]?=w'.heap[b]?:=fun b R=>by
   rw[cz _ ⟨w.heap.size,3,none⟩ _ b R,cz _ ⟨w.heap.size,2,none⟩ _ b R,cz _ ⟨w.heap.size,1,none⟩ _ b R,cz _ ⟨w.heap.size,0,none⟩ _ b R]
  have a8:((((w'.setCell ⟨w.heap.size,0,none⟩ (.int .i64 x.ak)).setCell ⟨w.heap.size,1,none⟩ (.slice fa fn fc)).setCell ⟨w.heap.size,2,none⟩ (.slice va vn vc)).setCell ⟨w.heap.size,3,none⟩ (.string ⟨#[]⟩)).heap.size=w'.heap.size:=by simp
  refine⟨kb,x.ak,.slice fa fn fc,.slice va vn vc,x.wd,?_,fun E J=>?_⟩
  .rw[aQ];exact(dh (i:=3) (dh (i:=2) (dh (i:=1) (dh (i:=0) hA _) _) _) _).trans rfl
  .have ai:Below w.heap.size w E:=kb.trans (J.mono kb.size);rw[a8]at J;have kW:∀b,b<w'.heap.size->b≠w.heap.size->E.heap[b]?=w'.heap[b]?:=fun b h1 h2=>(J.block b h1).trans (kk b h2)
   refine Dp hd t D (ag.later ai) (fun e=>c2 (fun e1=>e ?_)) (fun e=>?_)
   .unfold QS.ak;rw[hf,hr,e1];simp
   .have a9:x.c.kind=1:=by
     unfold QS.ak at e;rw[hf,hr]at e;simp at e;refine iS fun h1=>?_
     have e:=e h1;split at e
     .cases e
     .split at e<;>cases e
    obtain⟨d1,d2⟩:=c3 a9;refine⟨⟨d1.len,d1.cap,d1.small,?_⟩,⟨d2.len,d2.cap,d2.small,d2.zd,?_⟩⟩
    .rcases d1.form with⟨b,o,e1,V,N⟩|e1
     .have S:b≠w.heap.size:=fun e4=>by have:=c4 b (by rw[e1];rfl);omega
      exact .inl ⟨b,o,e1,by have:=J.size;omega,fun i s hs=>(cS (kW b V S)).trans (N i s hs)⟩
     .exact .inr e1
    .rcases d2.form with⟨b,o,e1,V,N⟩|e1
     .have S:b≠w.heap.size:=fun e4=>by have:=c5 b (by rw[e1];rfl);omega
      exact .inl ⟨b,o,e1,by have:=J.size;omega,fun i s hs=>(cS (kW b V S)).trans (N i s hs)⟩
     .exact .inr e1
 have aR:Hid (∀(wr:World) (j:Nat) (p:PS),pB w wr x j->x.ps[j]?=some p->p.opn=true->Jk w wr v s x a (.returned (.bool false))):=fun wr j p H c ho=>by
  refine .inl ⟨fun hn=>?_,rfl,H.jx⟩;unfold QS.n at hn;rw[kE]at hn;exact absurd ho (by simpa using hn p (cu c))
 have Q:Hid (∀(wr:World),pB w wr x x.ps.length->x.n=0):=fun wr H=>by
  unfold QS.n;rw[kE];intro p c;have:=H.no p (by rw[gd];exact c);simp[this]
 have ab:Hid (∀(j:Nat) (p:PS),x.ps[j]?=some p->x.c.word=eY):=fun j p c=>z (fun D=>by
  have:x.ps=[]:=dw.1 (by rw[t.len,D];rfl);rw[this]at c;cases c)
 have au:=cb (cd hB hK);have ac:=cb aF;generalize ba:x.c.keys.length=kn at*;clear h hK hB X aD f hu aA hw aN ag z hd hT hq t ba aF;have aS:Hid (pB w (w.alloc (.cells #[.int .i64 5,.slice none 0 0,.slice none 0 0,.string x.c.word] 91)) x 0):=⟨cU,by rw[RB];exact du w _,fun p c=>by simp at c⟩
 generalize bb:u.bs.length=pn at*;have aG:pn<=4:=by rw[ac.out];exact aq
 clear bb;go_enter func166,ntmps166;go_wp2_with fail
 generalize w.alloc (.cells #[.int .i64 5,.slice none 0 0,.slice none 0 0,.string x.c.word] 91)=w1 at*;go_loopw [5,6] (fun i _ wr=>∃j:Nat,j<=pn/\i= .int .i64 (j:Int)/\Hid (pB w wr x j)) (fun i _ _=>pn-(intOf i).toNat)
 case atStart=>exact⟨0,cG _,rfl,aS⟩
 case round=>
  obtain⟨j,hj,rfl,l⟩:=hrel;have lB:=cH aE l.out.jx.size;have c6:=(l.out.jx.cell (p:=⟨u.B,6,none⟩) aE).trans b6;have a3:=cn l.out.at_ 3;have af:=dN l.out.at_;have lA:=cA l.out.at_;simp at a3;by_cases aT:j<pn
  .have bi:(j:Int)<(pn:Int):=by omega
   obtain⟨p,c⟩:∃p,x.ps[j]?=some p:=⟨_,cp (by rw[<-ac.out];exact aT)⟩
   obtain⟨g3,b,bj,o,id,Z,st,vl,e1,V,N,e4,e5⟩:=aO.out j p c;cases e1;unfold xe at e4;have q2:=cn e4 2;have q3:=cn e4 3;simp at q2 q3;have lb:=cA e4;have d1:=(l.out.jx.cell (p:=⟨g3,j,none⟩) V).trans N;have d2:=(l.out.jx.cell (p:=⟨b,2,none⟩) lb).trans q2;have d3:=(l.out.jx.cell (p:=⟨b,3,none⟩) lb).trans q3;have lg:=cH V l.out.jx.size;have bo:=cH lb l.out.jx.size;have A:Hid (∀(W:World),p.opn=false->Below w.heap.size w W->W.heap[w.heap.size]?=some (.cells #[.int .i64 5,.slice none 0 0,.slice none 0 0,.string (np x (j+1))] 91 (0,0))->pB w W x (j+1)):=fun W ho R ha=>⟨R,ha,fun y hy=>by
    rw[eV,c]at hy;rcases cr.1 hy with h1|h1
    .exact l.out.no y h1
    .simp at h1;rw[h1];exact ho⟩
   have m:=cb l.out.at_;rcases e5 with⟨ho,rfl⟩|⟨rfl,rfl⟩|⟨rfl,rfl⟩
   .have HF:=cb (aR.out wr j p l.out c ho);clear N e4 q2 q3 c ho A;go_wp2;go_ret;exact HF.out
   .have K:Hid (pB w (wr.setCell ⟨w.heap.size,3,none⟩ (.string ⟨#[100,111,119,110]⟩)) x (j+1)):=A.out _ rfl (l.out.jx.setCell (PC _) _) (by rw[MI c];exact(dh (i:=3) m.out _).trans rfl);clear N e4 q2 q3 c A m l;go_wp2;go_roundw;case rel=>exact⟨j+1,by omega,by go_num,K⟩
    case measure=>simp[intOf];omega
   .by_cases aH:st=2
    .subst aH;cases n:(np x j).toList.isEmpty with
     |true=>
      have K:Hid (pB w (wr.setCell ⟨w.heap.size,3,none⟩ (.string ⟨#[114,101,102,117,115,101,100]⟩)) x (j+1)):=A.out _ rfl (l.out.jx.setCell (PC _) _) (by rw[RV c n];exact(dh (i:=3) m.out _).trans rfl);have T:=rO n;unfold eY at T;rw[T]at a3;clear N e4 q2 q3 c A m l T n;go_wp2;go_roundw;case rel=>exact⟨j+1,by omega,by go_num,K⟩
      case measure=>simp[intOf];omega
     |false=>
      have K:Hid (pB w wr x (j+1)):=A.out _ rfl l.out.jx (by rw[RA c (ab.out j _ c) n];exact m.out);have S:¬np x j=⟨#[]⟩:=fun e=>by rw[e,show(ByteArray.mk #[]).toList.isEmpty=eY.toList.isEmpty from rfl,uV]at n;cases n
      clear N e4 q2 q3 c A m l;generalize np x j=aI at*;go_wp2;go_roundw;case rel=>exact⟨j+1,by omega,by go_num,K⟩
      case measure=>simp[intOf];omega
    .have K:Hid (pB w wr x (j+1)):=A.out _ rfl l.out.jx (by rw[MH c aH];exact m.out);have bk:¬(st:Int)=2:=by omega
     clear N e4 q2 q3 c A m l aH;generalize np x j=aI at*;go_wp2;refine⟨?_,by simp[intOf];omega⟩;(repeat apply Exists.intro)
     refine⟨⟨j+1,by omega,by go_num,K⟩,rfl⟩
  .have bc:j=pn:=by omega
   subst bc;have aJ:pB w wr x x.ps.length:=by rw[<-ac.out];exact l.out
   have B:=cb aJ;have aU:np x j=np x x.ps.length:=by rw[ac.out]
   have HY:=cb (Q.out wr aJ);have ad:=cb aU;clear aJ aU;obtain⟨aV,av⟩:∃aV,Value.slice ka kn kc=aV:=⟨_,rfl⟩
   have bd:=cb av;generalize aw:np x j=aI at*;have aK:=cb aw;clear aw l;go_upto_if 74 with fail
   go_cut [4] (fun s4 W=>s4= .pointer (some ⟨w.heap.size,0,none⟩)/\Be w W s.d x (.slice ka kn kc))
   case first=>
    have a0:=cn B.out.at_ 0;have a1:=cn B.out.at_ 1;have a2:=cn B.out.at_ 2;simp at a0 a1 a2;cases n:aI.toList.isEmpty with
    |true=>
     have HC:=cb (P.out wr B.out (by rw[<-ad.out];exact n));have T:=rO n;unfold eY at T;have m:=cb B.out.at_;clear n B ad aK HY O P Q;subst T;go_wp2_with fail
     go_at_call 174;refine HC.out.mono ?_;rintro e w4 ⟨ak,bp,bq,br,bs,bt,bu,rfl,aW,aX⟩;have aL:=cb aX;have U:=(aW.block _ lA).trans m.out;have z0:=cn U 0;have z1:=cn U 1;have z2:=cn U 2;have z3:=cn U 3;have zf:=dN U;simp at z0 z1 z2 z3;clear aX aW U a0 a1 a2 a3 af lA m;go_wp2_with fail
     go_meet
     case rel=>exact⟨rfl,aL.out⟩
    |false=>
     have aL:=cb (O.out wr B.out (by rw[<-ad.out];exact n));clear B ad aK HY O P Q a0 a1 a2;go_wp2_with fail
     go_meet
     case rel=>exact⟨rfl,aL.out⟩
   case rest=>
    obtain⟨rfl,hM⟩:=hcut;obtain⟨ak,fv,vv,wd,L,aY⟩:=hM.at_;have be:=cb aY;have al:=(hM.jx.block v.K a5).trans au.out.2;have C:=(hM.jx.block u.B aE).trans au.out.1;clear k0 k2 k3 kf b3 b6 aC c6 a3 af lA lB;have k0:=cn al 0;have b0:=cn C 0;have b1:=cn C 1;have b2:=cn C 2;have b3:=cn C 3;have b4:=cn C 4;have b5:=cn C 5;have q0:=cn L 0;have q1:=cn L 1;have q2:=cn L 2;have q3:=cn L 3;simp at k0 b0 b1 b2 b3 b4 b5 q0 q1 q2 q3;have ax:=cA al;have q:=cA C;have aa:=cA L;have aM:=cb (cd hM.jx (cd al (cd C L)));clear hM al C L aY;clear O P aR Q ab aO B ad aK bd ac aS av aT hj aq aG
    generalize ay:kS s.d x=bv at*;generalize EF:PJ s.told=tB at*;have az:=cb ay;clear EF ay;go_upto_region 17 with fail
    go_region_held3 (fun E=>E.cell? ⟨v.K,0,none⟩=some (.int .i64 s.d)/\E.cell? ⟨u.B,0,none⟩=some (.int .i64 x.c.kind)/\E.cell? ⟨u.B,1,none⟩=some (.slice ka kn kc)/\E.cell? ⟨u.B,2,none⟩=some (.string x.c.val)/\E.cell? ⟨u.B,3,none⟩=some (.string x.c.word)/\E.cell? ⟨u.B,4,none⟩=some (.bool x.c.fatal)/\E.cell? ⟨u.B,5,none⟩=some (.int .i64 x.c.id)/\E.cell? ⟨w.heap.size,0,none⟩=some (.int .i64 ak)/\E.cell? ⟨w.heap.size,1,none⟩=some fv/\E.cell? ⟨w.heap.size,2,none⟩=some vv/\E.cell? ⟨w.heap.size,3,none⟩=some (.string wd)) (go_keep) (first
     |(go_at_call 104;refine(be.out _ ?hx).mono ?_;(case hx=>repeat(first|with_reducible exact ct _ _|with_reducible refine dV ?_));rintro e w5 ⟨rfl,ae⟩;have d:=cb (mH ae);have r0:=(d.out.cell (p:=⟨v.K,0,none⟩) ax).trans k0;have r1:=(d.out.cell (p:=⟨u.B,0,none⟩) q).trans b0;have r2:=(d.out.cell (p:=⟨u.B,1,none⟩) q).trans b1;have r3:=(d.out.cell (p:=⟨u.B,2,none⟩) q).trans b2;have r4:=(d.out.cell (p:=⟨u.B,3,none⟩) q).trans b3;have r5:=(d.out.cell (p:=⟨u.B,4,none⟩) q).trans b4;have r6:=(d.out.cell (p:=⟨u.B,5,none⟩) q).trans b5;have r7:=(d.out.cell (p:=⟨w.heap.size,0,none⟩) aa).trans q0;have r8:=(d.out.cell (p:=⟨w.heap.size,1,none⟩) aa).trans q1;have r9:=(d.out.cell (p:=⟨w.heap.size,2,none⟩) aa).trans q2;have bf:=(d.out.cell (p:=⟨w.heap.size,3,none⟩) aa).trans q3;clear ae k0 b0 b1 b2 b3 b4 b5 q0 q1 q2 q3)
     |fail)
    all_goals
     have ae:Below w.heap.size w w5:=aM.out.1.trans (d.out.mono aM.out.1.size)
     have am:=(d.out.block v.K ax).trans aM.out.2.1
     have k2:=cn am 2
     have k3:=cn am 3
     simp at k2 k3
     have kf:=dN am
     have HG:=cb (ao.out w5 ae)
     clear ae am ao r0 r1 r2 r3 r4 r5 r6 r7 r8 r9 bf
     go_wp2
     .go_ret;rw[aP.out];refine .inr ⟨HY.out,rfl,⟨v.K,v.Y,_,M⟩,?_,rfl,rfl,(HG.out _ (.inr ⟨rfl,by omega⟩)).2.1,(HG.out _ (.inr ⟨rfl,by omega⟩)).2.2⟩;rw[az.out];exact(HG.out _ (.inr ⟨rfl,by omega⟩)).1
     .go_ret;rw[aP.out];refine .inr ⟨HY.out,rfl,⟨v.K,v.Y,_,M⟩,?_,rfl,rfl,(HG.out _ (.inl rfl)).2.1,(HG.out _ (.inl rfl)).2.2⟩;rw[az.out];exact(HG.out _ (.inl rfl)).1
variable {a b:List (Nat×Nat)}{s:dE}{x:QS}{J:List QS}{W q g l:World}{f:St}{p:PS}
theorem EA {c:Nat}{a b:List Nat}(h:a.Perm b)(d:a.length<65536):kX c a=kX c b:=by
 obtain⟨k,e,f⟩:=oL c b (by rw[<-h.length_eq];exact d);exact CI c a d _ (fun g=>e (h.mem_iff.1 g)) (fun i j=>h.mem_iff.2 (f i j))
theorem EG {o:Nat}(h:a.Perm b):(iD o a).Perm (iD o b):=(h.filter _).map _
theorem BZ {r pt:Nat}{k:Int}{c:ByteArray}(h:a.Perm b)(f:a.length<65536)(t:List dS)(o:ByteArray):oX r pt k c a t o=oX r pt k c b t o:=by
 unfold oX;have g:=Qc (fE r pt o) a;have e:∀d,kX d (iD (fE r pt o) a)=kX d (iD (fE r pt o) b):=fun d=>EA (EG h) (by omega)
 simp only[e]
theorem Ks {cs:List dE}{i:Nat}(a:cs[i]?=some s):(wo cs).Perm (lJ cs i++jX s.qs):=by
 have e:wo cs=wo (cs.take i)++(jX s.qs++wo (cs.drop (i+1))):=by
  conv=>lhs;rw[ku a]
  unfold wo;rw[jD,nZ]
 rw[e];unfold lJ;rw[fx];exact oB _ List.perm_append_comm
theorem DE (h:s.qs=x::J)(a:x.n=0):hU ⟨s.d,s.st,J,s.told++(kS s.d x).data.toList⟩=hU s:=by
 unfold hU;rw[h];conv=>rhs;unfold iE;rw[cN a]
theorem Fu (h:s.qs=[]):hU s=s:=by
 obtain⟨d,f,b,a⟩:=s;subst h;rfl
theorem DF (h:s.qs=x::J)(b:x.n≠0):hU s=s:=by
 obtain⟨d,f,c,a⟩:=s;subst h;unfold hU iE;simp[b]
theorem xH.OH {m T E:Nat}{t:List dS}(h:xH m T E s t)(c:s.d=1\/s.d=2\/s.d=3)(d:s.qs=x::J)(e:oJ s.d x):xH m T E ⟨s.d,s.st,J,s.told++(kS s.d x).data.toList⟩ t:=by
 have a:=h.told;have b:=h.wl;rw[d]at a b;simp only[dc]at a b;have f:(kS s.d x).data.toList.length<=1000:=by exact si c e
 refine⟨?_,?_,h.ji⟩
 .simp only[cI];omega
 .simp only;omega
theorem jt.Mf {v:eE}(h:jt W v s):xb W v.K v.Y=2*s.st.held.length+s.qs.length:=by
 have d:W.cell? ⟨v.Y,1,none⟩=some (.string (PJ s.st.held)):=cn h.rd.at_ 1;have e:W.cell? ⟨v.K,2,none⟩=some v.wv:=cn h.eC 2;obtain⟨a,c,b⟩:=h.row.len;rw[dp,h.len]at b;unfold xb;rw[d,e,b];simp only
 rw[lr]
structure kV (w wr:World)(X sv pt win:Nat)(cv rv:Value)(cis:List eE)(cs:List dE)(vs:List Nat)(i K Y T E:Nat)(d:Int)(v:eE)(s:dE)(ss:List dS)(tg:dE×List dS):Prop where
 iw:eN wr X sv pt win cv rv (cis.set i v) (cs.set i s) vs ss
 K_:v.K=K
 Y_:v.Y=Y
 mQ:eH (fZ X cv cis vs) w wr
 sF:dB w (fZ X cv cis vs) (fZ X cv (cis.set i v) vs)
 MF:lZ sv pt win (lJ cs i) (hU s) ss=tg
 bd:xH win T E s ss
 d_:s.d=d
section
variable {w wr w':World}{X r pt m:Nat}{y z:Value}{n:List eE}{cs:List dE}{u:List Nat}{i K Y T E:Nat}{d:Int}{v v':eE}{s s':dE}{t:List dS}{e:dE×List dS}
theorem kV.jV (h:kV w wr X r pt m y z n cs u i K Y T E d v s t e)(b:i<n.length):jt wr v s:=by
 have a:=h.iw.cl;rw[dj,dj]at a;exact h.iw.jV i v s (by grind) (by simp_all)
theorem kV.Qe (h:kV w wr X r pt m y z n cs u i K Y T E d v s t e)(q:i<n.length)(g:jt w' v' s')(c:v'.K=v.K)(j:v'.Y=v.Y)(k:eH v.cM wr w')(l:dB wr v.cM v'.cM)(o:lZ r pt m (lJ cs i) (hU s') t=e)(hb:xH m T E s' t)(p:s'.d=d):kV w w' X r pt m y z n cs u i K Y T E d v' s' t e:=by
 obtain⟨a,f⟩:=h.iw.Qe (i:=i) (v:=v) (v':=v') (s':=s') (by grind) k g c l hb.wl;rw[rH]at a f;rw[rH]at a;refine⟨a,c.trans h.K_,j.trans h.Y_,h.mQ.trans k (fun b hb=>?_),h.sF.trans f h.mQ.size,o,hb,p⟩;exact h.sF b (eS.2 (.inr (.inr (.inl ⟨i,v,by simp_all,hb⟩))))
theorem kV.below (h:kV w wr X r pt m y z n cs u i K Y T E d v s t e)(hb:Below wr.heap.size wr w'):kV w w' X r pt m y z n cs u i K Y T E d v s t e:=
 ⟨h.iw.below hb,h.K_,h.Y_,h.mQ.trans (eH.dP (M:=[]) hb) (fun b hb=>by cases hb),h.sF,h.MF,h.bd,h.d_⟩
theorem jt.FD {d:World}(h:jt W v s)(c:ie v.Y W d)(o:iU d v.Y s.d f):jt d v {s with st:=f}/\eH v.cM W d:=by
 have k:eH [v.Y] W d:=⟨c.os,c.tape,c.output,c.size,fun b a y=>c.block b a (by grind)⟩
 have l:∀{b T:Nat} {Z:Array Value},W.heap[b]?=some (.cells Z T (0,0))->T≠195->d.heap[b]?=W.heap[b]?:=fun a c=>k.block _ (cA a) (fun e=>by
  simp at e;have m:=h.rd.at_;unfold mO at m;rw[e,m]at a;simp at a;exact c a.2.symm)
 have a:=h.eC;refine⟨⟨(l a (by decide)).trans a,o,h.row.other (fun g p=>by obtain⟨q,r⟩:=h.row.eC p;exact l r (by decide)),h.len,fun j u x t i=>?_,h.nd,h.ok⟩,k.more (fun x i=>by simp at i;rw[i];simp[eE.cM])⟩;have n:=h.qu j u x t i;exact n.keep k.size (fun b a=>by obtain⟨Z,T,w,z⟩:=n.kind b a;exact l w (by grind))
theorem kV.next (h:kV w q X r pt m y z n cs u i K Y T E d v s t e)(k:i<n.length)(c:ie Y q g)(a:iU g Y d f):eN g X r pt m y z (n.set i v) (cs.set i {s with st:=f}) u t/\eH v.cM q g:=by
 have b:=h.jV k;rw[<-h.Y_]at c a;rw[<-h.d_]at a;obtain⟨l,j⟩:=b.FD c a;have:=(h.iw.Qe (i:=i) (v:=v) (v':=v) (s':={s with st:=f}) (by simp_all) j l rfl (dB.refl _ _) h.bd.wl).1;rw[rH,rH]at this;exact⟨this,j⟩
theorem kV.Kn (h:kV w q X r pt m y z n cs u i K Y T E d v s t e)(c:i<n.length)(f:ie Y q g)(a:iU g Y d s.st):kV w g X r pt m y z n cs u i K Y T E d v s t e:=by
 have b:=h.jV c;rw[<-h.Y_]at f a;rw[<-h.d_]at a;obtain⟨j,k⟩:=b.FD f a;exact h.Qe c j rfl rfl k (dB.refl _ _) h.MF h.bd h.d_
end
structure oD (wb wr:World)(sv pt:Nat)(vs:List Nat)(ex:List (Nat×Nat))(ss:List dS)(c:iO)(kv:Value)(lo M B j:Nat)(pv:Value)(bs:List Nat):Prop where
 mQ:eH vs wb wr
 ji:∀(o:Nat) (S:Nat) (s:dS),vs[o]?=some S->(fK sv pt c.kind c.val ex ss (c.keys.take j)).1[o]?=some s->wr.heap[S]?=some (tS s.up s.next (PJ s.held) s.je)
 mb:wr.heap[M]?=some (zt c kv)
 OP:wr.heap[B]?=some (Rb c kv pv)
 ky:gF wr lo kv c.keys
 row:wr.ownsRow 0 249 1 pv j (bs.map dC)
 pl:bs.length=j
 ok:∀(i b:Nat) (p:PS),bs[i]?=some b->(fK sv pt c.kind c.val ex ss (c.keys.take j)).2[i]?=some p->kO wr b p
 nd:bs.Nodup
 OX:wb.heap.size<=B
 OY:∀g,pv.ownBlock=some g->wb.heap.size<=g
 Pm:∀b∈bs,wb.heap.size<=b
section
variable {I wr l F:World}{X r pt m:Nat}{y z:Value}{n:List eE}{cs:List dE}{u:List Nat}{k:List (Nat×Nat)}{t:List dS}{c:iO}{A:Value}{H M B j P g2 cap2:Nat}{C:Value}{D:List Nat}{o:ByteArray}
theorem oD.iw (h:oD I wr r pt u k t c A H M B j C D)(a:eN I X r pt m y z n cs u t)(b:k.length<=100)(d:c.keys.length<=4):eN wr X r pt m y z n cs u (fK r pt c.kind c.val k t (c.keys.take j)).1:=
 a.NR h.mQ h.ji (qy _ _ _ _ _ _ _).1 (ur r pt c.kind c.val k t b a.nx (c.keys.take j) (by grind)).2.2
theorem Sc {wr:World}(e:eN wr X r pt m y z n cs u t)(k:eH u wr l):∀a:List Nat,243∉a->iT a wr l:=fun a g=>iT.mQ k (fun b T Z f h d i=>by
 obtain⟨s,c⟩:=e.EC h
 rw[c]at d
 obtain⟨_,rfl,_⟩:=d
 exact g i)
theorem oD.je {f:List dS}(h:oD I wr r pt u k t c A H M B j C D)(g:eN wr X r pt m y z n cs u (fK r pt c.kind c.val k t (c.keys.take j)).1)(i:pA wr l X r pt m y z n cs u f p P):l.heap[M]?=some (zt c A)/\l.heap[B]?=some (Rb c A C)/\gF l H A c.keys/\l.ownsRow 0 249 1 C j (D.map dC):=by
 obtain⟨v,o,_,q⟩:=i;have a:=Sc g q;have d:=h.mb;have e:=h.OP;exact⟨((a [36] (by simp)) _ _ _ _ d (by simp)).trans d,((a [266] (by simp)) _ _ _ _ e (by simp)).trans e,h.ky.other (PC _) (fun b Z s _=>(a [9] (by simp)) _ _ _ _ s (by simp)),(a [249] (by simp)).row (by simp) h.row⟩
theorem oD.start (e:eN l X r pt m y z n cs u t)(f:gF l H A c.keys):oD l ((l.alloc (zt c A)).alloc (Rb c A (.slice none 0 0))) r pt u k t c A H l.heap.size (l.heap.size+1) 0 (.slice none 0 0) []:=by
 have a:Below l.heap.size l ((l.alloc (zt c A)).alloc (Rb c A (.slice none 0 0))):=(cU).alloc (by simp) _;refine⟨eH.dP a,fun o S s h j=>?_,dI (du l _) _,fD (by simp),f.other (PC _) (fun b Z q _=>a.block b (cA q)),dv _ _ _ _,rfl,fun i b p a=>(by simp at a),List.nodup_nil,nE _,fun g v=>(by cases v),fun b a=>(by cases a)⟩;have d:=e.ji o S s h j;exact(a.block S (cA d)).trans d
theorem oD.more (h:oD I wr r pt u k t c A H M B j C D)(hk:c.keys[j]?=some o)(ad:eN wr X r pt m y z n cs u (fK r pt c.kind c.val k t (c.keys.take j)).1)(hp:(fK r pt c.kind c.val k t (c.keys.take (j+1))).2=(fK r pt c.kind c.val k t (c.keys.take j)).2++[p])(x:(fK r pt c.kind c.val k t (c.keys.take j)).2.length=j)(hs:pA wr l X r pt m y z n cs u (fK r pt c.kind c.val k t (c.keys.take (j+1))).1 p P)(R:F.ownsRow 0 249 1 (.slice (some ⟨g2,0,none⟩) (j+1) cap2) (j+1) (D.map dC++[.pointer (some ⟨P,0,none⟩)]))(v:(l.alloc (.cells #[.pointer (some ⟨P,0,none⟩)] 249)).grownBy F C.ownBlock)(ae:C.ownBlock=some g2\/g2=(l.alloc (.cells #[.pointer (some ⟨P,0,none⟩)] 249)).heap.size):∃af,oD I (F.setCell ⟨B,6,none⟩ (.slice (some ⟨g2,0,none⟩) (j+1) cap2)) r pt u k t c A H M B (j+1) (.slice (some ⟨g2,0,none⟩) (j+1) cap2) af:=by
 obtain⟨hP,ag,aa,k3⟩:=hs;have E:=Sc ad k3;have b4:Below l.heap.size l (l.alloc (.cells #[.pointer (some ⟨P,0,none⟩)] 249)):=cU;have am:=k3.size;have an:=h.mQ.size;have Y:=h.OP;unfold Rb at Y;have J:=((E [266] (by simp)) _ _ _ _ Y (by simp)).trans Y;have K:=(b4.block B (cA J)).trans J;have L:=(E [249] (by simp)).row (by simp) h.row;have nB:C.ownBlock≠some B:=fun e=>by
  obtain⟨ab,U⟩:=cZ L e;rw[J]at U;cases U
 have V:=(v.block B (cA K) (fun e=>nB e.symm)).trans K;have ah:eH (B::C.ownBlock.toList) (l.alloc (.cells #[.pointer (some ⟨P,0,none⟩)] 249)) (F.setCell ⟨B,6,none⟩ (.slice (some ⟨g2,0,none⟩) (j+1) cap2)):=((eH.refl _ _).grown v (fun b e=> .inl (by simp[e]))).set (.inl (by simp)) _;have N:∀Ts:List Nat,266∉Ts->249∉Ts->iT Ts l (F.setCell ⟨B,6,none⟩ (.slice (some ⟨g2,0,none⟩) (j+1) cap2)):=fun Ts O h2=>(iT.below b4).trans (iT.mQ ah (fun b T Z f hm d hT=>by
  rcases cQ.1 hm with e|e
  .rw[e,K]at d;simp at d;rw[<-d.2.1]at hT;exact O hT
  .obtain⟨ab,U⟩:=cZ L (ia e);have ai:=(b4.block b (cA U)).trans U;rw[ai]at d;simp at d;rw[<-d.2.1]at hT;exact h2 hT))
 have kp:∀{b:Nat} {q:PS},kO wr b q->kO (F.setCell ⟨B,6,none⟩ (.slice (some ⟨g2,0,none⟩) (j+1) cap2)) b q:=fun Q=>by
  obtain⟨Z,d⟩:=Q.eC;have O:=(E [253] (by simp)) _ _ _ _ d (by simp);exact Q.keep (((N [253] (by simp) (by simp)) _ _ _ _ (O.trans d) (by simp)).trans O)
 have ac:=h.mb;have W:=((E [36] (by simp)) _ _ _ _ ac (by simp)).trans ac;have aj:P∉D:=fun hm=>by
  obtain⟨i,hi,e⟩:=dG.1 hm;have e1:D[i]?=some P:=by simp_all
  have ak:i<(fK r pt c.kind c.val k t (c.keys.take j)).2.length:=by rw[x,<-h.pl];exact hi
  have:=h.ok i P _ e1 (cp ak);obtain⟨Z,d⟩:=this.eC;have:=cA d;omega
 refine⟨D++[P],?_,fun q S s hS hs=>?_,((N [36] (by simp) (by simp)) _ _ _ _ W (by simp)).trans W,(dh (i:=6) V _).trans rfl,?_,?_,by simp[h.pl],fun i b q w Q=>?_,?_,h.OX,fun g hg=>?_,fun b w=>?_⟩
 .have c1:=h.mQ.trans k3 (dB.refl _ _);have c2:=c1.trans (eH.dP (M:=[]) b4) (fun b w=>by cases w);refine(c2.grown v (fun b e=> .inr (h.OY b e))).set (.inr h.OX) _
 .have O:=ag.ji q S s hS hs;have h2:=O;exact((N [243] (by simp) (by simp)) _ _ _ _ h2 (by simp)).trans O
 .exact h.ky.other (PC _) (fun b Z d _=>by
   have O:=((E [9] (by simp)) _ _ _ _ d (by simp)).trans d;exact(((N [9] (by simp) (by simp)) _ _ _ _ O (by simp)).trans O).trans d.symm)
 .rw[dF];exact dR R (fun gg hg=>by
   cases hg;refine cz F ⟨B,6,none⟩ _ g2 (fun e=>?_);obtain⟨ab,U⟩:=cZ R rfl;rw[show g2=B from e,V]at U;cases U)
 .rw[hp]at Q;by_cases hi:i<j
  .rw[cW (by rw[h.pl];exact hi)]at w;rw[cW (by grind)]at Q;exact kp (h.ok i b q w Q)
  .have al:i=j:=by grind
   subst al;rw[dg (by rw[h.pl];exact PC _),h.pl]at w;rw[dg (by rw[x];exact PC _),x]at Q;simp at w Q;subst w Q;obtain⟨Z,d⟩:=aa.eC;exact aa.keep ((N [253] (by simp) (by simp)) _ _ _ _ d (by simp))
 .exact fJ.2 ⟨h.nd,by simp,fun a ha b w e=>by simp at w;exact aj (by rw[<-w,<-e];exact ha)⟩
 .have e':g2=g:=by simpa [Value.ownBlock]using hg
  rcases ae with e|e
  .exact h.OY g (by rw[e,e'])
  .rw[cF]at e;omega
 .rcases cr.1 w with e|e
  .exact h.Pm b e
  .simp at e;rw[e];omega
end
theorem mX.nd {W:World}{v:sH}{x:QS}(h:mX W v x)(hb:v.bs.Nodup):v.cM.Nodup:=by
 have j:=h.eC;have m:∀b∈v.bs,∃Z,W.heap[b]?=some (.cells Z 253 (0,0)):=fun b hb=>by
  obtain⟨i,p,_,_,r⟩:=h.part hb;exact r.eC
 have n:∀b,v.pv.ownBlock=some b->∃Z,W.heap[b]?=some (.cells Z 249 (0,0)):=fun b hb=>cZ h.row hb
 have tk:∀b,v.kb=some b->∃Z,W.heap[b]?=some (.cells Z 9 (0,0)):=fun b hb=>by
  rcases h.keys with⟨e,_⟩|⟨k,o,c,Z,s,z,t,A⟩
  .rw[e]at hb;cases hb
  .rw[s]at hb;cases hb;exact⟨Z,t⟩
 have g:∀{b k T q:Nat} {Z l:Array Value},W.heap[b]?=some (.cells Z T (0,0))->W.heap[k]?=some (.cells l q (0,0))->T≠q->b≠k:=fun B C D e=>by simp_all
 have u:(v.pv.ownBlock.toList++v.bs).Nodup:=by grind
 have w:(v.kb.toList++(v.pv.ownBlock.toList++v.bs)).Nodup:=by
  refine fJ.2 ⟨by cases v.kb<;>simp,u,fun a y b hb'=>?_⟩;obtain⟨Z,d⟩:=tk a (lj y);rcases cr.1 hb' with hb'|hb'
  .obtain⟨l,f⟩:=n b (ia hb');exact g d f (by decide)
  .obtain⟨l,f⟩:=m b hb';exact g d f (by decide)
 refine py.2 ⟨fun hm=>?_,w⟩;rcases cr.1 hm with hm|hm
 .obtain⟨Z,d⟩:=tk _ (lj hm);exact g j d (by decide) rfl
 rcases cr.1 hm with hm|hm
 .obtain⟨Z,d⟩:=n _ (ia hm);exact g j d (by decide) rfl
 .obtain⟨Z,d⟩:=m _ hm;exact g j d (by decide) rfl
theorem kV.got {w w1 w2 wr L:World}{X z pt O:Nat}{cv rv:Value}{q:List eE}{cs:List dE}{vs:List Nat}{i K Y T E:Nat}{d:Int}{v:eE}{s:dE}{H:List dS}{tg:dE×List dS}(h:kV w w1 X z pt O cv rv q cs vs i K Y T E d v s H tg)(N:i<q.length)(aj:s.qs.length<O)(az:hU s=s){x:iC}(hx:fw s.d s.st.held=some x)(hT:ie Y w1 w2)(hR:iU w2 Y d (fm s.st x)){W:Value}{M B:Nat}{pv:Value}{P:List Nat}(he:(lJ cs i++jX s.qs).length<=100)(D:oD w2 wr z pt vs (lJ cs i++jX s.qs) H x.c W w1.heap.size M B x.c.keys.length pv P){A:Option Addr}{C:Nat}(aa:gW L 263 (.slice A (v.ws.length+1) C) (v.ws.map (fun u=>dC u.B)++[.pointer (some ⟨B,0,none⟩)]))(aA:eH v.wv.ownBlock.toList (wr.alloc (.cells #[.pointer (some ⟨B,0,none⟩)] 263)) L)(aB:(Value.slice A (v.ws.length+1) C).ownBlock=v.wv.ownBlock\/(Value.slice A (v.ws.length+1) C).ownBlock=some (wr.alloc (.cells #[.pointer (some ⟨B,0,none⟩)] 263)).heap.size):∃v',kV w (L.setCell ⟨K,2,none⟩ (.slice A (v.ws.length+1) C)) X z pt O cv rv q cs vs i K Y T E d v' (sU z pt (lJ cs i) s H x).1 (sU z pt (lJ cs i) s H x).2 tg:=by
 obtain⟨r,ak⟩:=h.next N hT hR;have al:=yP hx;have aC:=al.cm.k4;have n:=D.iw r he aC;have ab:=D.ok;have am:=(qy z pt x.c.kind x.c.val (lJ cs i++jX s.qs) H x.c.keys).2;rw[gd]at n ab;have hK:=h.K_;subst hK;have an:=h.iw.cl;rw[dj,dj]at an;have k:=n.jV i v _ (by rw[cK N]) (by rw[cK (by omega)]);have b4:Below wr.heap.size wr (wr.alloc (.cells #[.pointer (some ⟨B,0,none⟩)] 263)):=cU;have k4:=(eH.dP (M:=v.wv.ownBlock.toList) b4).trans aA (dB.refl _ _);have k5:eH (v.K::v.wv.ownBlock.toList) wr (L.setCell ⟨v.K,2,none⟩ (.slice A (v.ws.length+1) C)):=(k4.more (fun b hb=>cJ _ hb)).set (.inl (by simp)) _
 have Q:=k.eC;unfold Df at Q;have t:∀{b T:Nat} {Z:Array Value},wr.heap[b]?=some (.cells Z T (0,0))->T≠247->T≠263->(L.setCell ⟨v.K,2,none⟩ (.slice A (v.ws.length+1) C)).heap[b]?=wr.heap[b]?:=fun hb h1 r=>k5.block _ (cA hb) (fun ae=>by
  rcases cQ.1 ae with e|e
  .rw[e,Q]at hb;simp at hb;exact h1 hb.2.symm
  .obtain⟨R,l⟩:=k.row.eC (ia e);rw[l]at hb;simp at hb;exact r hb.2.symm)
 have ao:L.heap[v.K]?=some (Df s.d v.Y v.wv s.told):=by
  refine(k4.block v.K (cA Q) (fun ae=>?_)).trans k.eC;obtain⟨R,l⟩:=k.row.eC (ia ae);rw[Q]at l;simp at l
 obtain⟨kb,aD,aE⟩:=uQ.of D.ky;have af:mX wr ⟨B,W,kb,pv,P⟩ ⟨x.c,(fK z pt x.c.kind x.c.val (lJ cs i++jX s.qs) H x.c.keys).2⟩:=⟨D.OP,by simp only[D.pl];exact D.row,by show P.length=_;rw[D.pl,am],ab,aD⟩
 have aF:=af.keep k5.size (fun b hb=>by
  obtain⟨Z,T,h1,r⟩:=af.kind b hb;exact t h1 (by rcases r with e|e|e|e<;>(subst e;decide)) (by rcases r with e|e|e|e<;>(subst e;decide)))
 have aG:=(h.jV N).old;have aJ:=ak.size;have ac:∀b∈sH.cM ⟨B,W,kb,pv,P⟩,w1.heap.size<=b:=fun b hb=>by
  rcases cQ.1 hb with e|hb
  .have:=D.OX;rw[e];show w1.heap.size<=B;omega
  rcases cr.1 hb with hb|hb
  .exact aE b (lj hb)
  rcases cr.1 hb with hb|hb
  .have:=D.OY b (ia hb);omega
  .have:=D.Pm b hb;omega
 have ap:=k.rd.at_;have aq:jt (L.setCell ⟨v.K,2,none⟩ (.slice A (v.ws.length+1) C)) ⟨v.K,v.Y,.slice A (v.ws.length+1) C,v.ws++[⟨B,W,kb,pv,P⟩]⟩ (sU z pt (lJ cs i) s H x).1:=by
  refine⟨(dh (i:=2) ao _).trans rfl,⟨(t ap (by decide) (by decide)).trans ap,k.rd.ok⟩,?_,?_,fun j u c m l=>?_,?_,fun y F=>?_⟩
  .rw[dF];refine aa.other (fun g hg=>cz L ⟨v.K,2,none⟩ _ g (fun e=>?_));obtain⟨R,l⟩:=aa.eC hg;rw[show g=v.K from e,ao]at l;unfold Df at l;simp at l
  .show(v.ws++[_]).length=(s.qs++[_]).length;have hl:v.ws.length=s.qs.length:=k.len;simp only[cI,fu]
   omega
  .simp only at m;have l:(s.qs++[(⟨x.c,(fK z pt x.c.kind x.c.val (lJ cs i++jX s.qs) H x.c.keys).2⟩:QS)])[j]?=some c:=l;have hl:v.ws.length=s.qs.length:=k.len;by_cases hj:j<v.ws.length
   .rw[cW hj]at m;rw[cW (by omega)]at l;have hq:=k.qu j u c m l;exact hq.keep k5.size (fun b hb=>by
     obtain⟨Z,T,h1,r⟩:=hq.kind b hb;exact t h1 (by rcases r with e|e|e|e<;>(subst e;decide)) (by rcases r with e|e|e|e<;>(subst e;decide)))
   .have aH:=(cq.1 m).1;simp at aH;have aI:j=v.ws.length:=by omega
    subst aI;rw[dg (PC _)]at m;rw[hl,dg (PC _)]at l;simp at m l;subst m;subst l;exact aF
  .rw[yd,ye];refine fJ.2 ⟨k.nd,af.nd D.nd,fun a ha b hb e=>?_⟩;have h1:=aG a (by exact cJ _ (cJ _ (cr.2 (.inr ha))));have r:=ac b hb;omega
  .have F:=F;rcases cr.1 F with h1|h1
   .exact k.ok y h1
   .simp at h1;rw[h1];refine⟨al,by show _=x.c.keys.length;rw[am],fun p hp=>?_⟩;rcases IE z pt x.c.kind x.c.val (lJ cs i++jX s.qs) H x.c.keys p hp with e|⟨o,id,e⟩
    .rw[e];trivial
    .rw[e];trivial
 have ar:dB w1 v.cM (eE.cM ⟨v.K,v.Y,.slice A (v.ws.length+1) C,v.ws++[⟨B,W,kb,pv,P⟩]⟩):=fun b hb=>by
  rcases cQ.1 hb with e|hb
  .rw[e];exact .inl (by simp[eE.cM])
  rcases cQ.1 hb with e|hb
  .rw[e];exact .inl (by simp[eE.cM])
  rcases cr.1 hb with hb|hb
  .have hb:=ia hb;rcases aB with e|e
   .rw[e]at hb;exact .inl (by simp[eE.cM,hb])
   .rw[e]at hb;cases hb;have:=D.mQ.size;exact .inr (by simp;omega)
  .simp only at hb;rw[yd,ye]at hb;rcases cr.1 hb with hb|hb
   .exact .inl (by exact cJ _ (cJ _ (cr.2 (.inr hb))))
   .exact .inr (ac b hb)
 have kf:eH v.cM wr (L.setCell ⟨v.K,2,none⟩ (.slice A (v.ws.length+1) C)):=k5.more (fun b hb=>by
  rcases cQ.1 hb with e|hb
  .rw[e];simp[eE.cM]
  .exact cJ _ (cJ _ (cr.2 (.inl hb))))
 have I:∀b∈v.cM,b∈fZ X cv (q.set i v) vs:=fun b hb=>eS.2 (.inr (.inr (.inl ⟨i,v,by rw[cK N],hb⟩)))
 have au:∀b∈vs,b∈fZ X cv (q.set i v) vs:=fun b hb=>eS.2 (.inr (.inr (.inr hb)))
 have av:=h.bd.got aj hx z pt (lJ cs i);have aw:eN (L.setCell ⟨v.K,2,none⟩ (.slice A (v.ws.length+1) C)) X z pt O cv rv (q.set i ⟨v.K,v.Y,.slice A (v.ws.length+1) C,v.ws++[⟨B,W,kb,pv,P⟩]⟩) (cs.set i (sU z pt (lJ cs i) s H x).1) vs (sU z pt (lJ cs i) s H x).2:=by
  have hb:=n.eC;refine⟨(t hb (by decide) (by decide)).trans hb,?_,dR n.ub (fun g hg=>by obtain⟨R,l⟩:=cZ n.ub hg;exact t l (by decide) (by decide)),n.len,n.sl,n.s1,n.s4,n.p1,n.yM,n.w6,by rw[dj,dj];exact an,by rw[dj];have:=n.c4;rw[dj]at this;exact this,fun j u y m F=>?_,fun a j u1 u2 ag h1 r b ah J=>?_,fun j S y hS F=>?_,n.NO,fun y F=>?_,n.nx⟩
  .have:=n.rh;have ax:(q.set i ⟨v.K,v.Y,.slice A (v.ws.length+1) C,v.ws++[⟨B,W,kb,pv,P⟩]⟩).map (fun v=>dC v.K)=(q.set i v).map (fun v=>dC v.K):=by
    rw[PW,PW]
   rw[dj]at this⊢;rw[ax];exact dR this (fun g hg=>by obtain⟨R,l⟩:=cZ this hg;exact t l (by decide) (by decide))
  .by_cases f:i=j
   .subst f;rw[cK N]at m;rw[cK (by omega)]at F;cases m;cases F;exact aq
   .rw[de f]at m F;have l:=n.jV j u y (by rw[de f];exact m) (by rw[de f];exact F);exact l.keep kf.size (fun b hb=>kf.block b (l.old b hb) (n.cap j i u v (fun e=>f e.symm) (by rw[de f];exact m) (by rw[cK N]) b hb))
  .have ay:∀(j:Nat) (u:eE),i≠j->q[j]?=some u->∀b∈u.cM,b<w1.heap.size:=fun j u f m b hb=>h.iw.old (eS.2 (.inr (.inr (.inl ⟨j,u,by rw[de f];exact m,hb⟩))))
   have ad:∀(j:Nat) (u:eE),i≠j->q[j]?=some u->∀b∈u.cM,b∉eE.cM ⟨v.K,v.Y,.slice A (v.ws.length+1) C,v.ws++[⟨B,W,kb,pv,P⟩]⟩:=fun j u f m b hb J=>by
    rcases ar b J with h3|h3
    .exact n.cap j i u v (fun e=>f e.symm) (by rw[de f];exact m) (by rw[cK N]) b hb h3
    .have:=ay j u f m b hb;omega
   by_cases U:i=a
   .subst U;rw[cK N]at h1;cases h1;rw[de ag]at r;exact ad j u2 ag r b J ah
   .rw[de U]at h1;by_cases ai:i=j
    .subst ai;rw[cK N]at r;cases r;exact ad a u1 U h1 b ah J
    .rw[de ai]at r;exact n.cap a j u1 u2 ag (by rw[de U];exact h1) (by rw[de ai];exact r) b ah J
  .have h1:=n.ji j S y hS F;exact(t h1 (by decide) (by decide)).trans h1
  .obtain⟨jj,V⟩:=ga.1 F;by_cases f:i=jj
   .subst f;rw[cK (by omega)]at V;cases V;exact av.wl
   .rw[de f]at V;exact n.wl y (ga.2 ⟨jj,by rw[de f];exact V⟩)
 have g1:=h.mQ.trans ak (fun b hb=>h.sF b (I b hb));have g2:=g1.trans D.mQ (fun b hb=>h.sF b (au b hb));have g3:=g2.trans kf (fun b hb=>h.sF b (I b hb));refine⟨_,aw,rfl,h.Y_,g3,fun b hb=>?_,?_,av,h.d_⟩
 .rcases eS.1 hb with e|e|⟨j,u,m,e⟩|e
  .exact h.sF b (eS.2 (.inl e))
  .exact h.sF b (eS.2 (.inr (.inl e)))
  .by_cases f:i=j
   .subst f;rw[cK N]at m;cases m;rcases ar b e with h3|h3
    .exact h.sF b (I b h3)
    .have:=h.mQ.size;exact .inr (by omega)
   .rw[de f]at m;exact h.sF b (eS.2 (.inr (.inr (.inl ⟨j,u,by rw[de f];exact m,e⟩))))
  .exact h.sF b (eS.2 (.inr (.inr (.inr e))))
 .rw[<-h.MF,az];exact(zb aj hx).symm
end Go.Proofs.YtlonjggfnleolaaGreatDoor
