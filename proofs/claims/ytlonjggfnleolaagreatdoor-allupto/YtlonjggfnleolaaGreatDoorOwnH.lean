import Derived.Test.YtlonjggfnleolaaGreatDoorJuQa
import Derived.Deep.RegionLaw
set_option linter.unusedVariables false
namespace Go.Proofs.YtlonjggfnleolaaGreatDoor
open Go.RowKit Go.Shelf Go.Proofs.Tryz
variable {n j:Nat}
theorem Nv:∃i,prog.info? 34=some i/\i.zero=some (.slice none 0 0)/\i.size=1/\i.bytes=24:=by
 have h:(prog.info? 34).map (fun i=>(i.zero,i.size,i.bytes))=some (some (.slice none 0 0),1,24):=by kernel_rfl
 cases a:prog.info? 34 with
 |none=>rw[a]at h;cases h
 |some i=>
  rw[a]at h;simp only[gP,iJ,gi]at h;exact⟨i,rfl,h.1,h.2.1,h.2.2⟩
theorem Row.put {w:World}{b e g c:Nat}{d:List Value}(h:Row w b e 1 (.slice (some ⟨g,0,none⟩) n c) n d)(q:j<n)(v:Value):Row (w.setCell ⟨g,j,none⟩ v) b e 1 (.slice (some ⟨g,0,none⟩) n c) n (d.set j v):=by
 obtain⟨r,⟨f,_⟩|⟨s,i,a,k,l,m,o,t,p⟩⟩:=h
 .cases f
 .cases k;refine⟨by simp_all,.inr ⟨g,c,a.setIfInBounds j v,rfl,l,dh (i:=j) m v,o,by simp_all,?_⟩⟩;rw[Array.toList_setIfInBounds,<-p,PZ,List.take_set]
theorem AQ (w:World)(g j:Nat)(v:Value):w.grownBy (w.setCell ⟨g,j,none⟩ v) (some g):=⟨rfl,rfl,rfl,by simp,fun k b a=>cz w ⟨g,j,none⟩ v k (fun e=>a (by simp_all))⟩
theorem It (v:Value)(a:List Value)(b:a.length=n)(c:j<n):(List.replicate j v++a.drop j).set j v=List.replicate (j+1) v++a.drop (j+1):=by
 have e:a.drop j=a[j]::a.drop (j+1):=gX (by omega);rw[e,List.set_append_right _ _ (by simp)];simp only[lH,rI,dk]
 rw[List.replicate_succ'];simp
theorem xx {P:Program}(w:World){l:Array Oper}{o:Oper}{a:Act}{K:Act->World->Prop}{Q:Exit->Act->World->Prop}{E:Prop}(A:o.guard=none)(s x:Operand)(t:TypeId)(M:o.op= .call {callee:= .builtin .append,args:=#[s,x],argTypes:=#[t,t]})(q:Nat)(e:TypeId)(i:TypeInfo)(z:Value)(b bytes:Nat)(N:P.underlying t=some (.slice e))(O:P.info? e=some i)(R:i.zero=some z)(g:i.size=b)(B:i.bytes=bytes)(C:z.cells.size=b)(D:0<b)(v:Value)(n:Nat)(F:List Value)(S:a.eval s=v)(p:Row w q e b v n F)(H:Addr)(m c:Nat)(d:List Value)(T:a.eval x= .slice (some H) m c)(U:d.length=m*b)(k:∀j u,d[j]?=some u->w.cell? (H.add j)=some u)(V:∀u∈d,u.oneCell'=true)(W:0<m)(I:n+m<=maxLen)(f:(n+m)*bytes<=140737488355328)(J:q<=w.heap.size)(h:∀r y w',Row w' q e b (.slice r (n+m) y) (n+m) (F++d)->w.grownBy w' v.ownBlock->K (a.put o.dst (.slice r (n+m) y)) w'):if Region.wanted o (yielded l a.tmps)=true then Oper.wp P o a w K Q else E:=by
 have X:Region.wanted o (yielded l a.tmps)=true:=by simp[Region.wanted,A]
 rw[cN X];obtain⟨v',w',Y,L,Z,h4,h5⟩:=tz (P:=P) w q t o.type e i z b bytes N O R g B C D v n F p H m c d U k V W I f J;obtain⟨r,y,hv⟩:=L.form;subst hv;unfold Oper.wp execOp;simp only[M,resolve,invoke,builtin,od,oe,kj,kK,eu,iI,S,T,Y]
 exact h r y w' L Z
theorem tP (n k:Nat)(id:Int):marks n id++marks k id=marks (n+k) id:=by
 unfold marks;rw[<-oz,List.flatten_append]
theorem ES (j n:Nat)(id:Int)(h:j<=n):(marks n id).take (j*6)=marks j id:=by
 obtain⟨k,rfl⟩:∃k,n=j+k:=⟨n-j,by omega⟩
 rw[<-tP,<-AF j id,List.take_left]
theorem Ka {W:World}{f:Nat}{e:Value}{d:List ByteArray}(h:gV W f e d):∃a c i,e= .slice a d.length c/\Row W f 9 1 e d.length i:=by
 rcases h with⟨rfl,rfl⟩|⟨b,c,rfl,j,Z,k,m,g,_⟩
 .exact⟨none,0,[],rfl,Row.nil _ _ _ _⟩
 .refine⟨some ⟨b,0,none⟩,c,Z.toList.take d.length,rfl,?_,.inr ⟨b,c,Z,rfl,j,k,g,by omega,by grind⟩⟩;have l:Z.toList.length=c:=by simp_all
  rw[fh,l,PZ];exact Nat.min_eq_left g
variable {w:World}{d e b n g c i:Nat}{f:List Value}
theorem Row.cell {u:Value}(h:Row w d e b (.slice (some ⟨g,0,none⟩) n c) n f)(a:f[i]?=some u):w.cell? ⟨g,i,none⟩=some u/\g<w.heap.size:=by
 obtain⟨r,⟨k,_⟩|⟨s,l,m,o,t,j,v,x,p⟩⟩:=h
 .cases k
 .cases o;refine⟨?_,cA j⟩;rw[cn j i];have q:i<n*b:=by grind
  rw[<-p,dx q]at a;simpa using a
theorem Row.some_ {a:Option Addr}(h:Row w d e b (.slice a n c) n f)(m:0<n):∃g,a=some ⟨g,0,none⟩:=by
 obtain⟨o,⟨_,p⟩|⟨i,j,k,l,_⟩⟩:=h
 .omega
 .cases l;exact⟨i,rfl⟩
theorem Row.Pe {f:List Value}(h:Row w d e b (.slice (some ⟨g,0,none⟩) n c) n f)(v:Value):Row (w.setCell ⟨g,i,none⟩ v) d e b (.slice (some ⟨g,0,none⟩) n c) n (f.set i v):=by
 obtain⟨r,⟨j,_⟩|⟨s,k,a,l,m,o,p,t,q⟩⟩:=h
 .cases j
 .cases l;refine⟨by simp_all,.inr ⟨g,c,a.setIfInBounds i v,rfl,m,dh (i:=i) o v,p,by simp_all,?_⟩⟩;rw[Array.toList_setIfInBounds,<-q,List.take_set]
theorem IH (A D:List Value)(g h i j k l a b c d e f:Value)(p:Nat)(m:A.length=p):((((((A++g::h::i::j::k::l::D).set p a).set (p+1) b).set (p+2) c).set (p+3) d).set (p+4) e).set (p+5) f=A++a::b::c::d::e::f::D:=by simp_all
theorem Hq {X:List Value}{j:Nat}(id:Int)(c:X.length=n*6)(d:j<n):((((((marks j id++X.drop (j*6)).set (j*6) (.int .i64 0)).set (j*6+1) (.slice none 0 0)).set (j*6+2) (.string ⟨#[]⟩)).set (j*6+3) (.string ⟨#[]⟩)).set (j*6+4) (.bool false)).set (j*6+5) (.int .i64 id)=marks (j+1) id++X.drop ((j+1)*6):=by
 have a:6<=(X.drop (j*6)).length:=by grind
 have b:X.drop ((j+1)*6)=(X.drop (j*6)).drop 6:=by rw[qg];congr 1;omega
 rw[b];match X.drop (j*6),a with
 |b0::e::f::g::h::i::D,_=>
  rw[IH _ _ _ _ _ _ _ _ _ _ _ _ _ _ _ (AF j id),<-tP j 1];simp[marks]
theorem Nu:∃i,prog.info? 28=some i/\i.zero=some (.slice none 0 0)/\i.size=1/\i.bytes=24:=by
 have h:(prog.info? 28).map (fun i=>(i.zero,i.size,i.bytes))=some (some (.slice none 0 0),1,24):=by kernel_rfl
 cases a:prog.info? 28 with
 |none=>rw[a]at h;cases h
 |some i=>
  rw[a]at h;simp only[gP,iJ,gi]at h;exact⟨i,rfl,h.1,h.2.1,h.2.2⟩
theorem Oc:∃i,prog.info? 3=some i/\i.zero=some (.int .i64 0)/\i.size=1/\i.bytes=8:=by
 have h:(prog.info? 3).map (fun i=>(i.zero,i.size,i.bytes))=some (some (.int .i64 0),1,8):=by kernel_rfl
 cases a:prog.info? 3 with
 |none=>rw[a]at h;cases h
 |some i=>
  rw[a]at h;simp only[gP,iJ,gi]at h;exact⟨i,rfl,h.1,h.2.1,h.2.2⟩
theorem JA {a i:World}{C:Nat}{b:Value}{Z:Array Value}{A:Obj}(h:Row a d 28 1 b n f)(c:a.heap[C]?=some (.cells Z 36 (0,0)))(e:(a.alloc A).grownBy i b.ownBlock):i.heap[C]?=some (.cells Z 36 (0,0)):=by
 have g:Below a.heap.size a (a.alloc A):=cU;exact(e.block C (by rw[cF];have:=cA c;omega) (jA h c (by decide))).trans ((g.block C (cA c)).trans c)
theorem Row.heap {w':World}{v:Value}(h:Row w d e b v n f)(a:w'.heap=w.heap):Row w' d e b v n f:=h.other (fun _ _ _ _ _=>by rw[a])
end Go.Proofs.YtlonjggfnleolaaGreatDoor
