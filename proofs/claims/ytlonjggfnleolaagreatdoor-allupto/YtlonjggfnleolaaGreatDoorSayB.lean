import Derived.Test.YtlonjggfnleolaaGreatDoorSayA
namespace Go.Proofs.YtlonjggfnleolaaGreatDoor
open Go.RowKit Go.Shelf Go.Proofs.Tryz
set_option linter.unusedVariables false
set_option maxHeartbeats 2000000
set_option maxRecDepth 20000
section
variable (D X c:Nat)(g j:Int)(m:Value)(d l:ByteArray)(h:Bool)(f n:Int)(p o:Value)(q:ByteArray)(i k g2:Int)(s:ByteArray)(x y:Int)(w:World)
theorem wT (a b:Int)(r:Obj)(I J:World->Prop)(v:r= .cells #[.int .i64 9,.int .i64 g,.int .i64 j,m,.string d,.string l,.bool h,.int .i64 f,.int .i64 n,p,o,.string q,.int .i64 i,.int .i64 k,.int .i64 g2,.string s,.int .i64 x,.int .i64 y] 95)(K:w.heap[D]?=some (.cells #[dC X,dC c] 201 (0,0)))(U:Calls prog 54 #[dC X,.int .i64 x] (w.alloc r).drew fun e t=>e= .returned (.tuple #[.int .i64 a,.int .i64 b])/\I t)(V:∀t,I t->Calls prog 112 #[dC c,.int .i64 x] t.drew fun e B=>e= .returned (.tuple #[.int .i64 a,.int .i64 b])/\J B)(Y:∀t,I t->t.heap[D]?=some (.cells #[dC X,dC c] 201 (0,0))/\t.heap[w.heap.size]?=some r)(Z:∀B,J B->B.heap[D]?=some (.cells #[dC X,dC c] 201 (0,0))/\B.heap[w.heap.size]?=some r):Calls prog 71 #[dC D,Value.agg #[.int .i64 9,.int .i64 g,.int .i64 j,m,.string d,.string l,.bool h,.int .i64 f,.int .i64 n,p,o,.string q,.int .i64 i,.int .i64 k,.int .i64 g2,.string s,.int .i64 x,.int .i64 y]] w fun e w'=>e= .returned (.bool true)/\J w':=by
 have L:=cA K;have M:Hid (∀W:World,W.heap[D]?=some (.cells #[dC X,dC c] 201 (0,0))/\W.heap[w.heap.size]?=some r->W.cell? ⟨D,0,none⟩=some (.pointer (some ⟨X,0,none⟩))/\W.cell? ⟨D,1,none⟩=some (.pointer (some ⟨c,0,none⟩))/\W.cell? ⟨w.heap.size,0,none⟩=some (.int .i64 9)/\W.cell? ⟨w.heap.size,16,none⟩=some (.int .i64 x)/\D<W.heap.size/\w.heap.size<W.heap.size):=fun W H=>by
  have u:=H.2;rw[v]at u;exact⟨cn H.1 0,cn H.1 1,cn u 0,cn u 16,cA H.1,cA u⟩
 have C:(w.alloc r).heap[D]?=some (.cells #[dC X,dC c] 201 (0,0))/\(w.alloc r).heap[w.heap.size]?=some r:=⟨(cC _ _ _ L).trans K,du w r⟩
 obtain⟨d0,d1,o0,N,l1,l2⟩:=M.out _ C;have H1:=cb U;have H2:=cb V;have K1:=cb Y;have K2:=cb Z;clear U V Y Z K C;unfold dC at*;go_enter nG,mG;go_wp2_with fail
 rw[<-v];clear v;generalize w.alloc r=w0 at*;go_region_held3 (fun E=>E.cell? ⟨D,0,none⟩=some (.pointer (some ⟨X,0,none⟩))/\E.cell? ⟨w.heap.size,16,none⟩=some (.int .i64 x)) (go_keep) (first
  |(go_at_call 54;refine H1.out.mono ?_;rintro e t ⟨rfl,z⟩;obtain⟨d10,d11,O,F,P,Q⟩:=M.out _ (K1.out _ z);have R:=cb z;clear z d0 d1 o0 N l1 l2)
  |fail)
 have HQ:=cb (H2.out t R.out);go_wp2_with fail
 go_region_held3 (fun E=>E.cell? ⟨D,1,none⟩=some (.pointer (some ⟨c,0,none⟩))/\E.cell? ⟨w.heap.size,16,none⟩=some (.int .i64 x)) (go_keep) (first
  |(go_at_call 112;refine HQ.out.mono ?_;rintro e B ⟨rfl,A⟩;obtain⟨d20,d21,ab,aa,ac,ad⟩:=M.out _ (K2.out _ A);have S:=cb A;clear A d10 d11 O F P Q)
  |fail)
 go_wp2_with (first|(go_at_call 99;refine(qp _ _).mono ?_;rintro e w3 ⟨rfl,T⟩;subst T)|fail)
 go_ret;exact⟨rfl,S.out⟩
theorem wV (a:ByteArray)(b:Int)(r:Obj)(I J:World->Prop)(v:r= .cells #[.int .i64 11,.int .i64 g,.int .i64 j,m,.string d,.string l,.bool h,.int .i64 f,.int .i64 n,p,o,.string q,.int .i64 i,.int .i64 k,.int .i64 g2,.string s,.int .i64 x,.int .i64 y] 95)(K:w.heap[D]?=some (.cells #[dC X,dC c] 201 (0,0)))(U:Calls prog 26 #[dC X,.int .i64 x] (w.alloc r).drew fun e t=>e= .returned (.tuple #[.string a,.int .i64 b])/\I t)(V:∀t,I t->Calls prog 113 #[dC c,.int .i64 x] t.drew fun e B=>e= .returned (.tuple #[.string a,.int .i64 b])/\J B)(Y:∀t,I t->t.heap[D]?=some (.cells #[dC X,dC c] 201 (0,0))/\t.heap[w.heap.size]?=some r)(Z:∀B,J B->B.heap[D]?=some (.cells #[dC X,dC c] 201 (0,0))/\B.heap[w.heap.size]?=some r):Calls prog 71 #[dC D,Value.agg #[.int .i64 11,.int .i64 g,.int .i64 j,m,.string d,.string l,.bool h,.int .i64 f,.int .i64 n,p,o,.string q,.int .i64 i,.int .i64 k,.int .i64 g2,.string s,.int .i64 x,.int .i64 y]] w fun e w'=>e= .returned (.bool true)/\J w':=by
 have L:=cA K;have M:Hid (∀W:World,W.heap[D]?=some (.cells #[dC X,dC c] 201 (0,0))/\W.heap[w.heap.size]?=some r->W.cell? ⟨D,0,none⟩=some (.pointer (some ⟨X,0,none⟩))/\W.cell? ⟨D,1,none⟩=some (.pointer (some ⟨c,0,none⟩))/\W.cell? ⟨w.heap.size,0,none⟩=some (.int .i64 11)/\W.cell? ⟨w.heap.size,16,none⟩=some (.int .i64 x)/\D<W.heap.size/\w.heap.size<W.heap.size):=fun W H=>by
  have u:=H.2;rw[v]at u;exact⟨cn H.1 0,cn H.1 1,cn u 0,cn u 16,cA H.1,cA u⟩
 have C:(w.alloc r).heap[D]?=some (.cells #[dC X,dC c] 201 (0,0))/\(w.alloc r).heap[w.heap.size]?=some r:=⟨(cC _ _ _ L).trans K,du w r⟩
 obtain⟨d0,d1,o0,N,l1,l2⟩:=M.out _ C;have H1:=cb U;have H2:=cb V;have K1:=cb Y;have K2:=cb Z;clear U V Y Z K C;unfold dC at*;go_enter nG,mG;go_wp2_with fail
 rw[<-v];clear v;generalize w.alloc r=w0 at*;go_region_held3 (fun E=>E.cell? ⟨D,0,none⟩=some (.pointer (some ⟨X,0,none⟩))/\E.cell? ⟨w.heap.size,16,none⟩=some (.int .i64 x)) (go_keep) (first
  |(go_at_call 26;refine H1.out.mono ?_;rintro e t ⟨rfl,z⟩;obtain⟨d10,d11,O,F,P,Q⟩:=M.out _ (K1.out _ z);have R:=cb z;clear z d0 d1 o0 N l1 l2)
  |fail)
 have HQ:=cb (H2.out t R.out);go_wp2_with fail
 go_region_held3 (fun E=>E.cell? ⟨D,1,none⟩=some (.pointer (some ⟨c,0,none⟩))/\E.cell? ⟨w.heap.size,16,none⟩=some (.int .i64 x)) (go_keep) (first
  |(go_at_call 113;refine HQ.out.mono ?_;rintro e B ⟨rfl,A⟩;obtain⟨d20,d21,ab,aa,ac,ad⟩:=M.out _ (K2.out _ A);have S:=cb A;clear A d10 d11 O F P Q)
  |fail)
 go_wp2_with (first|(go_at_call 99;refine(qp _ _).mono ?_;rintro e w3 ⟨rfl,T⟩;subst T)|fail)
 go_ret;exact⟨rfl,S.out⟩
theorem wU (a:ByteArray)(b:Int)(r:Obj)(I J:World->Prop)(v:r= .cells #[.int .i64 12,.int .i64 g,.int .i64 j,m,.string d,.string l,.bool h,.int .i64 f,.int .i64 n,p,o,.string q,.int .i64 i,.int .i64 k,.int .i64 g2,.string s,.int .i64 x,.int .i64 y] 95)(K:w.heap[D]?=some (.cells #[dC X,dC c] 201 (0,0)))(U:Calls prog 30 #[dC X,.int .i64 x] (w.alloc r).drew fun e t=>e= .returned (.tuple #[.string a,.int .i64 b])/\I t)(V:∀t,I t->Calls prog 114 #[dC c,.int .i64 x] t.drew fun e B=>e= .returned (.tuple #[.string a,.int .i64 b])/\J B)(Y:∀t,I t->t.heap[D]?=some (.cells #[dC X,dC c] 201 (0,0))/\t.heap[w.heap.size]?=some r)(Z:∀B,J B->B.heap[D]?=some (.cells #[dC X,dC c] 201 (0,0))/\B.heap[w.heap.size]?=some r):Calls prog 71 #[dC D,Value.agg #[.int .i64 12,.int .i64 g,.int .i64 j,m,.string d,.string l,.bool h,.int .i64 f,.int .i64 n,p,o,.string q,.int .i64 i,.int .i64 k,.int .i64 g2,.string s,.int .i64 x,.int .i64 y]] w fun e w'=>e= .returned (.bool true)/\J w':=by
 have L:=cA K;have M:Hid (∀W:World,W.heap[D]?=some (.cells #[dC X,dC c] 201 (0,0))/\W.heap[w.heap.size]?=some r->W.cell? ⟨D,0,none⟩=some (.pointer (some ⟨X,0,none⟩))/\W.cell? ⟨D,1,none⟩=some (.pointer (some ⟨c,0,none⟩))/\W.cell? ⟨w.heap.size,0,none⟩=some (.int .i64 12)/\W.cell? ⟨w.heap.size,16,none⟩=some (.int .i64 x)/\D<W.heap.size/\w.heap.size<W.heap.size):=fun W H=>by
  have u:=H.2;rw[v]at u;exact⟨cn H.1 0,cn H.1 1,cn u 0,cn u 16,cA H.1,cA u⟩
 have C:(w.alloc r).heap[D]?=some (.cells #[dC X,dC c] 201 (0,0))/\(w.alloc r).heap[w.heap.size]?=some r:=⟨(cC _ _ _ L).trans K,du w r⟩
 obtain⟨d0,d1,o0,N,l1,l2⟩:=M.out _ C;have H1:=cb U;have H2:=cb V;have K1:=cb Y;have K2:=cb Z;clear U V Y Z K C;unfold dC at*;go_enter nG,mG;go_wp2_with fail
 rw[<-v];clear v;generalize w.alloc r=w0 at*;go_region_held3 (fun E=>E.cell? ⟨D,0,none⟩=some (.pointer (some ⟨X,0,none⟩))/\E.cell? ⟨w.heap.size,16,none⟩=some (.int .i64 x)) (go_keep) (first
  |(go_at_call 30;refine H1.out.mono ?_;rintro e t ⟨rfl,z⟩;obtain⟨d10,d11,O,F,P,Q⟩:=M.out _ (K1.out _ z);have R:=cb z;clear z d0 d1 o0 N l1 l2)
  |fail)
 have HQ:=cb (H2.out t R.out);go_wp2_with fail
 go_region_held3 (fun E=>E.cell? ⟨D,1,none⟩=some (.pointer (some ⟨c,0,none⟩))/\E.cell? ⟨w.heap.size,16,none⟩=some (.int .i64 x)) (go_keep) (first
  |(go_at_call 114;refine HQ.out.mono ?_;rintro e B ⟨rfl,A⟩;obtain⟨d20,d21,ab,aa,ac,ad⟩:=M.out _ (K2.out _ A);have S:=cb A;clear A d10 d11 O F P Q)
  |fail)
 go_wp2_with (first|(go_at_call 99;refine(qp _ _).mono ?_;rintro e w3 ⟨rfl,T⟩;subst T)|fail)
 go_ret;exact⟨rfl,S.out⟩
theorem yo (a:Int)(r:Obj)(I J:World->Prop)(u:r= .cells #[.int .i64 10,.int .i64 g,.int .i64 j,m,.string d,.string l,.bool h,.int .i64 f,.int .i64 n,p,o,.string q,.int .i64 i,.int .i64 k,.int .i64 g2,.string s,.int .i64 x,.int .i64 y] 95)(K:w.heap[D]?=some (.cells #[dC X,dC c] 201 (0,0)))(V:Calls prog 28 #[dC X,.int .i64 x,.string s] (w.alloc r).drew fun e t=>e= .returned (.int .i64 a)/\I t)(Y:∀t,I t->Calls prog 115 #[dC c,.int .i64 x,.string s] t.drew fun e B=>e= .returned (.int .i64 a)/\J B)(Z:∀t,I t->t.heap[D]?=some (.cells #[dC X,dC c] 201 (0,0))/\t.heap[w.heap.size]?=some r)(k2:∀B,J B->B.heap[D]?=some (.cells #[dC X,dC c] 201 (0,0))/\B.heap[w.heap.size]?=some r):Calls prog 71 #[dC D,Value.agg #[.int .i64 10,.int .i64 g,.int .i64 j,m,.string d,.string l,.bool h,.int .i64 f,.int .i64 n,p,o,.string q,.int .i64 i,.int .i64 k,.int .i64 g2,.string s,.int .i64 x,.int .i64 y]] w fun e w'=>e= .returned (.bool true)/\J w':=by
 have L:=cA K;have M:Hid (∀W:World,W.heap[D]?=some (.cells #[dC X,dC c] 201 (0,0))/\W.heap[w.heap.size]?=some r->W.cell? ⟨D,0,none⟩=some (.pointer (some ⟨X,0,none⟩))/\W.cell? ⟨D,1,none⟩=some (.pointer (some ⟨c,0,none⟩))/\W.cell? ⟨w.heap.size,0,none⟩=some (.int .i64 10)/\W.cell? ⟨w.heap.size,16,none⟩=some (.int .i64 x)/\W.cell? ⟨w.heap.size,15,none⟩=some (.string s)/\D<W.heap.size/\w.heap.size<W.heap.size):=fun W H=>by
  have b:=H.2;rw[u]at b;exact⟨cn H.1 0,cn H.1 1,cn b 0,cn b 16,cn b 15,cA H.1,cA b⟩
 have C:(w.alloc r).heap[D]?=some (.cells #[dC X,dC c] 201 (0,0))/\(w.alloc r).heap[w.heap.size]?=some r:=⟨(cC _ _ _ L).trans K,du w r⟩
 obtain⟨d0,d1,o0,N,O,l1,l2⟩:=M.out _ C;have H1:=cb V;have H2:=cb Y;have K1:=cb Z;have K2:=cb k2;clear V Y Z k2 K C;unfold dC at*;go_enter nG,mG;go_wp2_with fail
 rw[<-u];clear u;generalize w.alloc r=w0 at*;go_region_held3 (fun v=>v.cell? ⟨D,0,none⟩=some (.pointer (some ⟨X,0,none⟩))/\v.cell? ⟨w.heap.size,16,none⟩=some (.int .i64 x)/\v.cell? ⟨w.heap.size,15,none⟩=some (.string s)) (go_keep) (first
  |(go_at_call 28;refine H1.out.mono ?_;rintro e t ⟨rfl,z⟩;obtain⟨d10,d11,P,E,F,Q,R⟩:=M.out _ (K1.out _ z);have S:=cb z;clear z d0 d1 o0 N O l1 l2)
  |fail)
 have HQ:=cb (H2.out t S.out);go_wp2_with fail
 go_region_held3 (fun v=>v.cell? ⟨D,1,none⟩=some (.pointer (some ⟨c,0,none⟩))/\v.cell? ⟨w.heap.size,16,none⟩=some (.int .i64 x)/\v.cell? ⟨w.heap.size,15,none⟩=some (.string s)) (go_keep) (first
  |(go_at_call 115;refine HQ.out.mono ?_;rintro e B ⟨rfl,A⟩;obtain⟨d20,d21,ac,aa,ab,ad,ae⟩:=M.out _ (K2.out _ A);have T:=cb A;clear A d10 d11 P E F Q R)
  |fail)
 go_wp2_with (first|(go_at_call 99;refine(qp _ _).mono ?_;rintro e w3 ⟨rfl,U⟩;subst U)|fail)
 go_ret;exact⟨rfl,T.out⟩
end
end Go.Proofs.YtlonjggfnleolaaGreatDoor
