import Derived.Test.YtlonjggfnleolaaGreatDoorApB
namespace Go.Proofs.YtlonjggfnleolaaGreatDoor
open Go.RowKit Go.Shelf
set_option linter.unusedVariables false
set_option maxHeartbeats 40000000
set_option maxRecDepth 100000
theorem apart_any (ga:Option Addr)(gn gc:Nat)(gs:List Int)(la:Option Addr)(ln lc:Nat)(ls:List (List Int))(sa:Option Addr)(sn sc:Nat)(fa:Option Addr)(fn fc:Nat)(w:World)(hg:RawIn w ga gn gc gs)(hl:LisIn w la ln lc ls)(hs:StepsIn w sa sn sc)(hf:FaultsIn w fa fn fc):Calls Tryz.prog 13 #[.slice ga gn gc,.slice la ln lc,.slice sa sn sc,.slice fa fn fc] w fun e w'=>e= .returned (.bool true)∧Below w.heap.size w w':=by
 have HBg:=hide' (begun_any ga gn gc gs la ln lc ls w hg hl);have HG:=hide' hg;have HSi:=hide' hs;have HFi:=hide' hf;have hsn:=hs.small;have hsc:=hs.cap;have hfn:=hf.small;have hfc:=hf.cap;clear hg hl hs hf;generalize hsv:1+pickN (rawN gs 0) 4=sv at*;generalize hpt:1+pickN (rawN gs 1) 16=pt at*;generalize hwi:1+pickN (rawN gs 2) 6=win at*;clear hsv hpt hwi;go_enter Tryz.func13,Tryz.ntmps13;go_wp2_with fail
 go_at_call 24;refine HBg.out.mono ?_;rintro e w1 ⟨P,X,css,D,rfl,hb,hcl⟩;have hc4:css.length≤4:=by omega
 have HS0:Hid (ApTo gs w w1 P X sv pt win css (sdTo gs css (List.replicate css.length 0) 0) D):=by
  have h:=ApTo.start hb hc4;rw[←sdTo_zero gs css (List.replicate css.length 0)]at h;exact h
 clear hb HBg hcl;obtain⟨a1,c1,a2,c2,e1,f1,e2,f2⟩:=HS0.out.forms;have HE:=hide' (And.intro e1 e2);have hs14:=HS0.out.s14.1;clear e1 e2;go_wp2_with fail
 go_loopw [10,11] (fun i _ wr=>∃c:Nat,i= .int .i64 (c:Int)∧c≤css.length∧Hid (ApTo gs w wr P X sv pt win css (sdTo gs css (List.replicate css.length 0) c) D)) (fun i _ _=>css.length-(intOf i).toNat)
 case atStart=>exact⟨0,rfl,Nat.zero_le _,HS0⟩
 case round=>
  obtain⟨c,rfl,hc,HS⟩:=hrel;clear HS0;obtain⟨p0,_,p2,pl⟩:=HS.out.pc;rw[HE.out.2]at p2;by_cases hlt:c<css.length
  ·as_aux_lemma=>
    have hlt':(c:Int)<(css.length:Int):=by omega
    obtain⟨hl15,g2,c2',ev,hg2l,hg2c⟩:=HS.out.cli hlt
    rw[HE.out.2]at ev
    cases ev
    have HSy:=hide' ((HS.out.below (Below.refl _ _).drew).callSay hlt)
    have HN:Hid (∀W',ApTo gs w W' P X sv pt win css (sdTo gs css (List.replicate css.length 0) (c+1)) D→(W'.cell? ⟨P,0,none⟩=some (.pointer (some ⟨X,0,none⟩))∧W'.cell? ⟨P,2,none⟩=some (.slice (some ⟨g2,0,none⟩) css.length c2)∧W'.cell? ⟨g2,c,none⟩=some (.string (mkB (txI gs css c))))):=fun W' h=>by
     obtain⟨q0,_,q2,_⟩:=h.pc;obtain⟨_,g,cc,ev,_,hgc⟩:=h.cli hlt;rw[HE.out.2]at ev q2;cases ev;exact⟨q0,q2,hgc⟩
    have hTb:(mkB (txI gs css c)).size≤15000:=by rw[mk_size];exact hl15
    clear HS hl15
    generalize mkB (txI gs css c)=T at*
    go_wp2_with fail
    go_region_held3 (fun W'=>W'.cell? ⟨P,0,none⟩=some (.pointer (some ⟨X,0,none⟩))∧W'.cell? ⟨P,2,none⟩=some (.slice (some ⟨g2,0,none⟩) css.length c2)∧W'.cell? ⟨g2,c,none⟩=some (.string T)) (go_keep) (first
     |(go_at_call 28;refine HSy.out.mono ?_;rintro e w5 ⟨rfl,h5⟩;have h6:=HN.out w5 h5;have HP5:=hide' h5;have x0:=h6.1;have x1:=h6.2.1;have x2:=h6.2.2;clear h5 h6)
     |fail)
    rename_i hHeld
    clear hHeld x0 x1 x2 p0 p2 pl HSy HN hg2c
    go_wp2_with fail
    go_roundw
    case rel=>exact⟨c+1,by go_num,by omega,HP5⟩
    case measure=>simp[intOf];omega
  ·have hlt':¬(c:Int)<(css.length:Int):=by omega
   have hcl:c=css.length:=by omega
   subst hcl;generalize sdTo gs css (List.replicate css.length 0) css.length=SD at*;go_wp2_with fail
   clear p0 p2 pl;go_loopw [12,13,14,15,16,17,18,19,20,21] (fun i _ _ _ _ _ _ _ _ _ wr=>∃j:Nat,i= .int .i64 (j:Int)∧j≤sn∧Hid (ApTo gs w wr P X sv pt win css SD D)) (fun i _ _ _ _ _ _ _ _ _ _=>sn-(intOf i).toNat)
   case atStart=>exact⟨0,rfl,Nat.zero_le _,HS⟩
   case round=>
    obtain⟨j,rfl,hj,HS2⟩:=hrel;clear HS;by_cases hgo:j<sn
    ·as_aux_lemma=>
      have hjs':(j:Int)<(sn:Int):=by omega
      obtain⟨kd,hK⟩:=HSi.out.kind hgo
      obtain⟨sg,so,x,y,hsa,hxw,hyw,hZ⟩:=hK.at_
      subst hsa
      have HZ:=hide' hZ
      clear hK hZ
      obtain⟨zl,z0,z1,z2⟩:=HZ.out _ HS2.out.bel
      obtain⟨p0,p1,_,pl⟩:=HS2.out.pc
      rw[HE.out.1]at p1
      have HPk:=hide' (fun W=>pick_big x sv W hxw (by omega) (by omega))
      have hn1:=pickN_lt x sv (by omega)
      generalize pickN x sv=n1 at*
      go_wp2_with fail
      go_quiet ((go_at_call 17;exact Calls.quiet_of_same (HPk.out _)))
      have HS3:=hide' (HS2.out.below (below_drewN (Below.refl _ _) nq))
      generalize wr.drewN nq=W1 at*
      clear p0 p1 pl z0 z1 z2 zl HS2 HPk
      obtain⟨p0,_,_,pl⟩:=HS3.out.pc
      have HSe:=hide' (HS3.out.callSent hn1)
      go_wp2_with fail
      go_at_call 30
      refine HSe.out.mono ?_
      rintro e w2 ⟨es,rfl,h2,hse⟩
      have HS4:=hide' h2
      have HSE:=hide' hse
      clear h2 hse HSe HS3 p0 pl
      have HT:Hid ((mkB ((frsE es).flatMap Fr.by_)).data.toList=(frsE es).flatMap Fr.by_):=by show _=_;simp[mkB]
      have HTz:Hid ((mkB ((frsE es).flatMap Fr.by_)).size=atOf es es.length):=by show _=_;rw[mk_size];unfold atOf;rw[List.take_length]
      have hTs:(mkB ((frsE es).flatMap Fr.by_)).size≤48000:=by
       rw[mk_size];have h1:=frs_le HSE.out.ok;have h2:=HSE.out.len;rw[frsE_len]at h1;omega
      generalize mkB ((frsE es).flatMap Fr.by_)=T at*
      have hel:=HSE.out.len
      go_wp2_with fail
      go_loopw [16,17,18,19,20,21] (fun ai mv _ _ _ _ wr=>∃(k:Nat) (a:Option Addr) (c:Nat),ai= .int .i64 (atOf es k:Int)∧k≤es.length∧mv= .slice a k c∧Hid (MdAt w2 wr (.slice a k c) (mdE (es.take k)))) (fun ai _ _ _ _ _ _=>T.size-(intOf ai).toNat)
      case atStart=>exact⟨0,none,0,rfl,Nat.zero_le _,rfl,⟨World.ownsRow_nil _ _ _ _,Below.refl _ _⟩⟩
      case round=>
       obtain⟨k,ma,mc,rfl,hk,rfl,HM⟩:=hrel;by_cases hlt:k<es.length
       ·as_aux_lemma=>
         obtain⟨⟨ei,en,em,ek,key,val⟩,he⟩:∃e,es[k]?=some e:=⟨_,List.getElem?_eq_getElem hlt⟩
         have hmem:=List.mem_of_getElem? he
         have HOw:=hide' (HSE.out.own _ hmem)
         have hFk:FrOk ⟨ek,key,val,k⟩:=HSE.out.ok _ (List.mem_of_getElem? (frsE_get he))
         obtain⟨r,hr⟩:=sent_split he
         have hsp:=HT.out
         rw[hr]at hsp
         have hex:=ext_to hsp (n:=atOf es k) rfl
         have hfl:=(Fr.by_len hFk).1
         have hln:atOf es k+((Fr.by_ ⟨ek,key,val,k⟩).length+r.length)=T.size:=by
          have h1:=congrArg List.length hsp;rw[List.length_append,List.length_append,len_size']at h1;unfold atOf;simp only at h1;omega
         have hCall:=kframe_any hFk r wr (by rw[List.length_append];omega)
         simp only at hex
         rw[←hex]at hCall
         have hSu:=atOf_succ he
         have HMs:Hid (mdE (es.take (k+1))=mdE (es.take k)++[ansF true (ltrE ⟨ei,en,em,ek,key,val⟩) k]):=by
          show _=_;rw[take_succ_en he,mdE_snoc,List.length_take,Nat.min_eq_left (by omega)]
         have HMl:Hid ((mdE (es.take k)).length=k):=by show _=_;rw[mdE_len,List.length_take,Nat.min_eq_left (by omega)]
         have hks:=(keyB_size' hFk.key).1
         have HV0:Hid (ltrE ⟨ei,en,em,ek,key,val⟩=if ek=1 then letV ei else noB):=rfl
         have hV40:=ltrE_size ⟨ei,en,em,ek,key,val⟩
         simp only at hks hCall hSu
         clear hsp hr hex hmem he
         generalize ltrE ⟨ei,en,em,ek,key,val⟩=V at*
         generalize (Fr.by_ ⟨ek,key,val,k⟩).length=fl at*
         have hlt':(atOf es k:Int)<(T.size:Int):=by omega
         have hle':(atOf es k:Int)≤(T.size:Int):=by omega
         have hle2:atOf es k≤T.size:=by omega
         generalize hat0:atOf es k=at0 at*
         have HA0:=hide' hat0
         have HLn:=hide' (And.intro hln hfl)
         have hws:IntKind.i64.wrap ((at0:Int)+(fl:Int))=(at0:Int)+(fl:Int):=wrap_small _ (by omega) (by omega)
         clear hln hfl
         have HSu:=hide' hSu
         clear hSu
         clear hat0 hFk
         have HC:=hide' hCall
         clear hCall
         go_wp2_with fail
         go_at_call 38
         refine HC.out.mono ?_
         rintro e w3 ⟨⟨K,rfl,hK,hKw⟩,hB3⟩
         have HB3:=hide' hB3
         have HK3:=hide' (And.intro hK hKw)
         clear hB3 hK hKw HC
         go_upto_region 22 with fail
         have HC6:=hide' (blkNew w3 (.cells #[.int .i64 ek,.slice (some ⟨K,0,none⟩) 1 1,.string val,.string ⟨#[]⟩,.bool false,.int .i64 (k:Int)] 36 (0,0)))
         have HB4:Hid (Below wr.heap.size wr (w3.alloc (.cells #[.int .i64 ek,.slice (some ⟨K,0,none⟩) 1 1,.string val,.string ⟨#[]⟩,.bool false,.int .i64 (k:Int)] 36))):=HB3.out.alloc HB3.out.size _
         have HK4:Hid ((w3.alloc (.cells #[.int .i64 ek,.slice (some ⟨K,0,none⟩) 1 1,.string val,.string ⟨#[]⟩,.bool false,.int .i64 (k:Int)] 36)).heap[K]?=some (.cells #[.string key] 9 (0,0))):=(Below.heap_alloc _ _ _ (blkLt HK3.out.1)).trans HK3.out.1
         generalize hw4:w3.alloc (.cells #[.int .i64 ek,.slice (some ⟨K,0,none⟩) 1 1,.string val,.string ⟨#[]⟩,.bool false,.int .i64 (k:Int)] 36)=W4 at*
         clear hw4 HK3 HB3
         generalize w3.heap.size=C at*
         have hCl:=blkLt HC6.out
         have c0:=blkCell HC6.out 0
         have c1:=blkCell HC6.out 1
         simp at c0 c1
         go_cut [97] (fun s W'=>Hid (∃b:Bool,s= .bool b∧(b=true↔ek=1))∧W4=W')
         case first=>
          as_aux_lemma=>
           by_cases hk1:ek=1
           ·subst hk1;go_wp2_with fail
            go_meet
            case rel=>exact⟨⟨true,rfl,by simp⟩,rfl⟩
           ·have hk1':(ek==1)=false:=by rw[beq_eq_false_iff_ne];exact hk1
            go_wp2_with fail
            go_meet
            case rel=>exact⟨⟨false,rfl,by simp[hk1]⟩,rfl⟩
         case rest=>
          as_aux_lemma=>
           obtain⟨hb,hwc⟩:=hcut
           subst hwc
           go_wp2_with fail
           go_cut [21] (fun v W'=>v= .string V∧Hid (Below W4.heap.size W4 W'))
           case first=>
            as_aux_lemma=>
             obtain⟨b,rfl,hb2⟩:=hb.out
             cases b with
             |false=>
              have hV:V=noB:=by rw[HV0.out,if_neg (fun h=>by have:=hb2.2 h;cases this)]
              subst hV;go_wp2_with fail
              go_meet
              case rel=>exact⟨rfl,Below.refl _ _⟩
             |true=>
              have hV:V=letV ei:=by rw[HV0.out,if_pos (hb2.1 rfl)]
              subst hV;have k0:=blkCell HK4.out 0;simp at k0;have hKl:=blkLt HK4.out;have hk0:(0:Int)<(key.size:Int):=by omega
              have hk02:0<key.size:=by omega
              have zk:=own_at HOw.out.2 HOw.out.1 hk02;have he4:ei<4:=HOw.out.1;have he4':(ei:Int)<4:=by omega
              have zs:IntKind.i64.wrap ((key[0].toNat:Int)-97)=(ei:Int):=by rw[zk,show(97:Int)+(ei:Int)-97=(ei:Int)by omega];exact wrap_small _ (by omega) (by omega)
              have zw:IntKind.i64.wrap (key[0].toNat:Int)=(key[0].toNat:Int):=wrap_small _ (by omega) (by omega);have HPk:Hid (∀W,Calls Tryz.prog 17 #[.int .i64 (ei:Int),.int .i64 4] W fun e w'=>e= .returned (.int .i64 (ei:Int))∧w'=W):=fun W=>by
               have h:=pick_big (ei:Int) 4 W (pick4w he4) (by omega) (by omega);rw[pick4 he4]at h;exact h
              clear HOw HV0 hV40 zk;go_wp2_with fail
              go_at_call 17;refine(HPk.out _).mono ?_;rintro e w5 ⟨rfl,hw5⟩;subst hw5;have HL6:=hide' (letters W4);generalize W4.alloc (.cells #[.string ⟨#[87,87,87]⟩,.string ⟨#[88,88,88]⟩,.string ⟨#[89,89,89]⟩,.string ⟨#[90,90,90]⟩] 9)=W6 at*;have l6:=HL6.out.1;have q6:=HL6.out.2.2 ei _ (letV_at he4);have hix:=ix4 W4.heap.size W6 he4;go_wp2_with fail
              go_meet
              case rel=>exact⟨rfl,HL6.out.2.1⟩
           case rest=>
            as_aux_lemma=>
             obtain⟨rfl,hB5⟩:=hcut
             have hCl5:C<wc.heap.size:=Nat.lt_of_lt_of_le hCl hB5.out.size
             have c5:wc.cell? ⟨C,5,none⟩=some (.int .i64 (k:Int)):=(hB5.out.cell (p:=⟨C,5,none⟩) hCl).trans (by have:=blkCell HC6.out 5;simpa using this)
             have HB5:Hid (Below wr.heap.size wr wc):=HB4.out.trans (hB5.out.mono HB4.out.size)
             clear hb HC6 HB4 HK4 c0 c1 hCl hB5 HOw HV0
             generalize wc=W5 at*
             have HBB:Hid (∀O O2,Below wr.heap.size wr ((W5.alloc O).alloc O2)):=fun O O2=>by
              have h1:Below W5.heap.size W5 ((W5.alloc O).alloc O2):=((Below.refl _ W5).alloc (Nat.le_refl _) O).alloc (by simp) O2;exact HB5.out.trans (h1.mono HB5.out.size)
             have HRF:Hid (∀O O2,((W5.alloc O).alloc O2).ownsRow w2.heap.size 9 1 (.slice ma k mc) k ((mdE (es.take k)).map .string)):=fun O O2=>by
              have h:=HM.out.below (HBB.out O O2);rw[HMl.out]at h;exact h
             have HPu:Hid (∀(O O2:Obj) (g cap:Nat) (w9:World) (x:ByteArray),w9.ownsRow w2.heap.size 9 1 (.slice (some ⟨g,0,none⟩) (k+1) cap) (k+1) ((mdE (es.take k)).map .string++[.string x])→((W5.alloc O).alloc O2).grownBy w9 (Value.slice ma k mc).ownBlock→MdAt w2 w9 (.slice (some ⟨g,0,none⟩) (k+1) cap) (mdE (es.take k)++[x])):=fun O O2 g cap w9 x h1 h2=>by
              have h:=HBB.out O O2;exact MdAt.push (W1:=(W5.alloc O).alloc O2) HM.out h HMl.out h1 h2
             have hbase:w2.heap.size≤W5.heap.size:=Nat.le_trans HM.out.bel.size HB5.out.size
             obtain⟨i9,h91,h92,h93,h94⟩:=info9s
             have HI9:=hide' (And.intro h91 (And.intro h92 (And.intro h93 h94)))
             clear h91 h92 h93 h94
             have u1:IntKind.u8.wrap (V.size:Int)=(V.size:Int):=by rw[wrap_u8];omega
             have u2:IntKind.u8.wrap (k:Int)=((k % 256:Nat):Int):=by rw[wrap_u8];omega
             have u3:IntKind.u8.wrap ((k:Int) / 256)=((k / 256:Nat):Int):=by rw[wrap_u8];omega
             have hcv:=conv7 W5
             have hsz7:∀l,(strOfNums l).size=l.length:=strOfNums_size
             have hcat:¬9223372036854775807<7+V.size:=by omega
             clear HM HB5 HMl HBB
             go_wp2_with (first
              |(show wpList _ _ _ ({dst:=_,op:=Op.buildSlice 80 7 _,type:=_,pos:=_,after:=_,guard:=_}::_) _ _;refine wpList_build7 rfl _ _ _ _ _ _ _ rfl 2 0 0 (V.size:Int) 0 ((k:Int) % 256) ((k:Int) / 256) rfl rfl rfl rfl rfl rfl rfl ?_)
              |(at_builtin;refine wpList_append_lies _ rfl _ _ _ rfl w2.heap.size 9 i9 (.string ⟨#[]⟩) 1 16 Tryz.underlying34 HI9.out.1 HI9.out.2.1 HI9.out.2.2.1 HI9.out.2.2.2 rfl (by omega) (.slice ma k mc) k ((mdE (es.take k)).map .string) rfl (HRF.out _ _) ⟨W5.heap.size+1,0,none⟩ 1 1 _ rfl rfl (World.news_of_block (hs_new (by simp))) (fun u hu=>by simp at hu;subst hu;rfl) (by omega) (by unfold maxLen;omega) (by omega) (by simp;omega) _ rfl ?_;intro g9 cap9 w9 hown hgr hat hlt9;have hp:=HPu.out _ _ g9 cap9 w9 _ hown hgr;have HM9:=hide' hp;clear hp hown hgr hat)
              |fail)
             rw[show strOfNums [2,0,0,(V.size:Int),0,(k:Int) % 256,(k:Int) / 256]++V=ansF true V k from by rw[←ansF_0];simp,←HMs.out]at HM9
             go_roundw
             case rel=>exact⟨k+1,some ⟨g9,0,none⟩,cap9,by rw[HSu.out];go_num,by omega,rfl,HM9⟩
             case measure=>have:=HLn.out;simp[intOf];omega
       ·have hke:k=es.length:=by omega
        subst hke;have hlt':¬(atOf es es.length:Int)<(T.size:Int):=by rw[HTz.out];omega
        rw[List.take_length]at HM;have HS5:=hide' (HS4.out.below HM.out.bel);clear HS4 HT HTz hk hlt;generalize atOf es es.length=at0 at*;go_upto_region 26 with fail
        go_cut [131] (fun s W'=>Hid (∃b:Bool,s= .bool b∧(b=true↔0<es.length))∧wr=W')
        case first=>
         as_aux_lemma=>
          by_cases hz:0<es.length
          ·have hz':(0:Int)<(es.length:Int):=by omega
           go_wp2_with fail
           go_meet
           case rel=>exact⟨⟨true,rfl,by simp[hz]⟩,rfl⟩
          ·have hz':¬(0:Int)<(es.length:Int):=by omega
           go_wp2_with fail
           go_meet
           case rel=>exact⟨⟨false,rfl,fun h=>(by cases h),fun h=>absurd h hz⟩,rfl⟩
        case rest=>
         as_aux_lemma=>
          obtain⟨hb,hwc⟩:=hcut
          subst hwc
          go_wp2_with fail
          go_cut [] (fun W'=>Hid (ApTo gs w W' P X sv pt win css SD D))
          case first=>
           as_aux_lemma=>
            obtain⟨b,rfl,hb2⟩:=hb.out
            cases b with
            |false=>
             go_wp2_with fail
             go_meet
             case rel=>exact HS5
            |true=>
             as_aux_lemma=>
              have hz:=hb2.1 rfl
              obtain⟨p0,_,_,pl⟩:=HS5.out.pc
              obtain⟨zl,z0,z1,z2⟩:=HZ.out _ HS5.out.bel
              have HPk:=hide' (fun W=>pick_big y es.length W hyw (by omega) (by omega))
              have hq:=pickN_lt y es.length (by omega)
              generalize pickN y es.length=q at*
              obtain⟨e,he⟩:∃e,es[q]?=some e:=⟨_,List.getElem?_eq_getElem hq⟩
              obtain⟨mg,ema,hmb,hmgl,hmgc,hmc⟩:=HM.out.at_ (mdE_get he)
              subst ema
              have hq':(q:Int)<(es.length:Int):=by omega
              have hm47:(ansF true (ltrE e) q).size≤47:=by rw[ansF_size];have:=ltrE_size e;omega
              have hbd:Below w2.heap.size w2 wr.drew:=HM.out.bel.trans ((Below.refl _ wr).drew.mono HM.out.bel.size)
              have HC:=hide' (HSE.out.ans wr.drew hbd q e he)
              generalize ansF true (ltrE e) q=m at*
              have HT8:Hid (∀W',ApTo gs w W' P X sv pt win css SD D→(∀b,w2.heap.size≤b→b<wr.drew.heap.size→W'.heap[b]?=wr.drew.heap[b]?)→W'.cell? ⟨P,0,none⟩=some (.pointer (some ⟨X,0,none⟩))∧W'.cell? ⟨mg,q,none⟩=some (.string m)∧W'.cell? ⟨sg,so+j*3+2,none⟩=some (.int .i64 y)):=fun W' h hb=>by
               refine⟨h.pc.1,?_,(HZ.out W' h.bel).2.2.2⟩;have h2:W'.heap[mg]?=wr.heap[mg]?:=hb mg hmb hmgl;exact(World.cell?_of_block (a:=⟨mg,q,none⟩) h2).trans hmgc
              clear HM HSE hb hb2 HZ hbd HS5 z0 z1
              go_wp2_with fail
              go_region_held3 (fun W'=>W'.cell? ⟨P,0,none⟩=some (.pointer (some ⟨X,0,none⟩))∧W'.cell? ⟨mg,q,none⟩=some (.string m)∧W'.cell? ⟨sg,so+j*3+2,none⟩=some (.int .i64 y)) (go_keep) (first
               |(go_at_call 17;refine(HPk.out _).mono ?_;rintro e w7 ⟨rfl,hw7⟩;subst hw7)
               |(go_at_call 32;refine HC.out.mono ?_;rintro e Wt ⟨⟨cc,rfl⟩,h8,h8b⟩;have h9:=HT8.out Wt h8 h8b;have HS6:=hide' h8;have x0:=h9.1;have x1:=h9.2.1;have x2:=h9.2.2;clear h8 h8b h9)
               |fail)
              rename_i hHeld
              clear hHeld x0 x1 x2 p0 pl zl z2 hmgl hmgc HC HT8 HPk
              go_wp2_with fail
              go_meet
              case rel=>exact HS6
          case rest=>
           as_aux_lemma=>
            have HS6:=hcut
            clear hcut HS5 hb HM HSE
            generalize wc=W6 at*
            go_upto_region 28 with fail
            go_cut [160] (fun s W'=>Hid (∃b:Bool,s= .bool b)∧W6=W')
            case first=>
             as_aux_lemma=>
              by_cases hjf:j<fn
              ·have hjf':(j:Int)<(fn:Int):=by omega
               obtain⟨fg,fo,fk,fx,fb,hfa,hfw,hfs,hZf⟩:=HFi.out.at_ hjf;subst hfa;obtain⟨yl,y0,y1,y2⟩:=hZf _ HS6.out.bel;clear hZf;by_cases hk1:fk=1
               ·subst hk1;go_wp2_with fail
                go_meet
                case rel=>exact⟨⟨_,rfl⟩,rfl⟩
               ·have hk1':(fk==1)=false:=by rw[beq_eq_false_iff_ne];exact hk1
                go_wp2_with fail
                go_meet
                case rel=>exact⟨⟨_,rfl⟩,rfl⟩
              ·have hjf':¬(j:Int)<(fn:Int):=by omega
               go_wp2_with fail
               go_meet
               case rel=>exact⟨⟨_,rfl⟩,rfl⟩
            case rest=>
             as_aux_lemma=>
              obtain⟨hb,hwc⟩:=hcut
              subst hwc
              go_wp2_with fail
              go_cut [] (fun W'=>Hid (ApTo gs w W' P X sv pt win css SD D))
              case first=>
               as_aux_lemma=>
                obtain⟨b,rfl⟩:=hb.out
                cases b with
                |false=>
                 go_wp2_with fail
                 go_meet
                 case rel=>exact HS6
                |true=>
                 obtain⟨p0,_,_,pl⟩:=HS6.out.pc;have HC:=hide' (HS6.out.callDown hn1);clear HS6;go_wp2_with fail
                 go_at_call 33;refine HC.out.mono ?_;rintro e w8 ⟨⟨cc,rfl⟩,h8⟩;have HS7:=hide' h8;clear h8 p0 pl HC;go_wp2_with fail
                 go_meet
                 case rel=>exact HS7
              case rest=>
               as_aux_lemma=>
                have HS7:=hcut
                clear hcut HS6 hb
                generalize wc=W7 at*
                go_upto_region 30 with fail
                go_cut [178] (fun s W'=>Hid (∃b:Bool,s= .bool b∧(b=true→j<fn))∧W7=W')
                case first=>
                 as_aux_lemma=>
                  by_cases hjf:j<fn
                  ·have hjf':(j:Int)<(fn:Int):=by omega
                   obtain⟨fg,fo,fk,fx,fb,hfa,hfw,hfs,hZf⟩:=HFi.out.at_ hjf;subst hfa;obtain⟨yl,y0,y1,y2⟩:=hZf _ HS7.out.bel;clear hZf;by_cases hk1:fk=2
                   ·subst hk1;go_wp2_with fail
                    go_meet
                    case rel=>exact⟨⟨_,rfl,fun _=>hjf⟩,rfl⟩
                   ·have hk1':(fk==2)=false:=by rw[beq_eq_false_iff_ne];exact hk1
                    go_wp2_with fail
                    go_meet
                    case rel=>exact⟨⟨_,rfl,fun _=>hjf⟩,rfl⟩
                  ·have hjf':¬(j:Int)<(fn:Int):=by omega
                   go_wp2_with fail
                   go_meet
                   case rel=>exact⟨⟨_,rfl,fun h=>(by cases h)⟩,rfl⟩
                case rest=>
                 as_aux_lemma=>
                  obtain⟨hb,hwc⟩:=hcut
                  subst hwc
                  go_wp2_with fail
                  obtain⟨b,rfl,hb2⟩:=hb.out
                  cases b with
                  |false=>
                   go_wp2_with fail
                   go_roundw;case rel=>exact⟨j+1,by go_num,by omega,HS7⟩
                   case measure=>simp[intOf];omega
                  |true=>
                   have hjf:=hb2 rfl;have hjf':(j:Int)<(fn:Int):=by omega
                   obtain⟨fg,fo,fk,fx,fb,hfa,hfw,hfs,hZf⟩:=HFi.out.at_ hjf;subst hfa;obtain⟨yl,y0,y1,y2⟩:=hZf _ HS7.out.bel;have HZf:=hide' hZf;clear hZf;obtain⟨p0,p1,_,pl⟩:=HS7.out.pc;rw[HE.out.1]at p1;have HPk:=hide' (fun W=>pick_big fx sv W hfw (by omega) (by omega));have hn2:=pickN_lt fx sv (by omega);generalize pickN fx sv=n2 at*;have HC:=hide' ((HS7.out.below (Below.refl _ _).drew).callUp hn2);have HT8:Hid (∀W',ApTo gs w W' P X sv pt win css SD D→W'.cell? ⟨P,0,none⟩=some (.pointer (some ⟨X,0,none⟩))∧W'.cell? ⟨P,1,none⟩=some (.slice a1 sv c1)∧W'.cell? ⟨fg,fo+j*3+1,none⟩=some (.int .i64 fx)):=fun W' h=>by
                    obtain⟨r0,r1,_,_⟩:=h.pc;rw[HE.out.1]at r1;exact⟨r0,r1,(HZf.out W' h.bel).2.2.1⟩
                   clear HS7 y0 y2 hb hb2;go_wp2_with fail
                   go_region_held3 (fun W'=>W'.cell? ⟨P,0,none⟩=some (.pointer (some ⟨X,0,none⟩))∧W'.cell? ⟨P,1,none⟩=some (.slice a1 sv c1)∧W'.cell? ⟨fg,fo+j*3+1,none⟩=some (.int .i64 fx)) (go_keep) (first
                    |(go_at_call 17;refine(HPk.out _).mono ?_;rintro e w7 ⟨rfl,hw7⟩;subst hw7)
                    |(go_at_call 34;refine HC.out.mono ?_;rintro e Wt ⟨⟨cc,rfl⟩,h8⟩;have h9:=HT8.out Wt h8;have HS8:=hide' h8;have x0:=h9.1;have x1:=h9.2.1;have x2:=h9.2.2;clear h8 h9)
                    |fail)
                   rename_i hHeld;clear hHeld x0 x1 x2 p0 p1 pl yl y1 HC HT8 HPk HZf;go_wp2_with fail
                   go_roundw;case rel=>exact⟨j+1,by go_num,by omega,HS8⟩
                   case measure=>simp[intOf];omega
    ·have hjs':¬(j:Int)<(sn:Int):=by omega
     clear HSi HFi hj hgo hsn hsc hfn hfc;go_wp2_with fail
     go_loopw [22,23,24,25] (fun i _ _ _ wr=>∃c:Nat,i= .int .i64 (c:Int)∧c≤css.length∧Hid (ApTo gs w wr P X sv pt win css SD D)) (fun i _ _ _ _=>css.length-(intOf i).toNat)
     case atStart=>exact⟨0,rfl,Nat.zero_le _,HS2⟩
     case round=>
      as_aux_lemma=>
       obtain⟨c,rfl,hc,HS3⟩:=hrel
       clear HS2
       obtain⟨p0,_,p2,pl⟩:=HS3.out.pc
       rw[HE.out.2]at p2
       by_cases hlt:c<css.length
       ·have hlt':(c:Int)<(css.length:Int):=by omega
        have hc4':c<4:=by omega
        have HT:=hide' (HS3.out.callTold hlt);go_wp2_with fail
        go_at_call 26;refine HT.out.mono ?_;rintro e w4 ⟨T,rfl,hTs,hok,h4⟩;have HS4:=hide' h4;have HOk:=hide' hok;clear h4 hok HT HS3 p0 p2 pl;go_wp2_with fail
        go_loopw [25] (fun i wr=>∃k:Nat,i= .int .i64 (k:Int)∧k≤T.size∧Hid (ApTo gs w wr P X sv pt win css SD D)) (fun i _=>T.size-(intOf i).toNat)
        case atStart=>exact⟨0,rfl,Nat.zero_le _,HS4⟩
        case round=>
         obtain⟨k,rfl,hk,HS5⟩:=hrel;clear HS4;by_cases hkt:k<T.size
         ·have hkt':(k:Int)<(T.size:Int):=by omega
          go_upto_region 41 with fail
          go_cut [247] (fun s W'=>s= .bool false∧Hid (ApTo gs w W' P X sv pt win css SD D))
          case first=>
           as_aux_lemma=>
            have hbl:=T[k].toNat_lt
            have HD:Hid (∀n,ApTo gs w (wr.drewN n) P X sv pt win css SD D):=fun n=>HS5.out.below (below_drewN (Below.refl _ _) n)
            by_cases h87:87≤T[k].toNat
            ·have h87':(87:Int)≤(T[k].toNat:Int):=by omega
             have d1:decide ((87:Int)≤(T[k].toNat:Int))=true:=decide_eq_true h87';by_cases h90:T[k].toNat≤90
             ·have h90':(T[k].toNat:Int)≤90:=by omega
              have d2:decide ((T[k].toNat:Int)≤90)=true:=decide_eq_true h90';have hcc:c=0∨c=1∨c=2∨c=3:=by omega
              by_cases heq:T[k].toNat=87+c
              ·clear HS5;rcases hcc with rfl|rfl|rfl|rfl
               ·have d3:((T[k].toNat:Int)==87)=true:=by rw[beq_iff_eq];omega
                have hix:=ixw_0;go_quiet (fail)
                go_wp2_with fail
                go_meet
                case rel=>exact⟨rfl,HD.out _⟩
               ·have d3:((T[k].toNat:Int)==88)=true:=by rw[beq_iff_eq];omega
                have hix:=ixw_1;go_quiet (fail)
                go_wp2_with fail
                go_meet
                case rel=>exact⟨rfl,HD.out _⟩
               ·have d3:((T[k].toNat:Int)==89)=true:=by rw[beq_iff_eq];omega
                have hix:=ixw_2;go_quiet (fail)
                go_wp2_with fail
                go_meet
                case rel=>exact⟨rfl,HD.out _⟩
               ·have d3:((T[k].toNat:Int)==90)=true:=by rw[beq_iff_eq];omega
                have hix:=ixw_3;go_quiet (fail)
                go_wp2_with fail
                go_meet
                case rel=>exact⟨rfl,HD.out _⟩
              ·have hd2:dOf gs c=2:=Classical.byContradiction fun hd=>by
                have h1:=HOk.out hd T[k] (by rw[Array.mem_toList_iff];exact Array.getElem_mem hkt);omega
               have HPj:Hid (∀W,Calls Tryz.prog 17 #[.int .i64 (rawN gs (3+c)),.int .i64 3] W fun e w'=>e= .returned (.int .i64 1)∧w'=W):=fun W=>by
                have h:=pick_big (rawN gs (3+c)) 3 W (rawN_wf HG.out _) (by omega) (by omega);have e:pickN (rawN gs (3+c)) 3=1:=by unfold dOf at hd2;omega
                rw[e]at h;exact h
               have HRj:Hid (∀W,Below w.heap.size w W→Calls Tryz.prog 37 #[.slice ga gn gc,.int .i64 ((3+c:Nat):Int)] W fun e w'=>e= .returned (.int .i64 (rawN gs (3+c)))∧w'=W):=fun W hW=>raw_any ga gn gc gs (3+c) W (HG.out.later hW) (by omega)
               have HBe:=hide' HS5.out.bel;clear HS5 hd2 HOk;generalize rawN gs (3+c)=rw0 at*;rcases hcc with rfl|rfl|rfl|rfl
               ·have d3:((T[k].toNat:Int)==87)=false:=by rw[beq_eq_false_iff_ne];omega
                have d4:((T[k].toNat:Int) != 87)=true:=by rw[bne,d3];rfl
                have d5:decide ((T[k].toNat:Int)=87)=false:=decide_eq_false (by omega);have d6:decide (¬(T[k].toNat:Int)=87)=true:=decide_eq_true (by omega);have hix:=ixw_0;have HR:Hid (∀n,Calls Tryz.prog 37 #[.slice ga gn gc,.int .i64 3] (wr.drewN n) fun e w'=>e= .returned (.int .i64 rw0)∧w'=wr.drewN n):=fun n=>HRj.out _ (below_drewN HBe.out n)
                clear HRj;go_quiet (first|(go_at_call 37;exact Calls.quiet_of_same (HR.out _))|(go_at_call 17;exact Calls.quiet_of_same (HPj.out _)))
                go_wp2_with fail
                go_meet
                case rel=>exact⟨rfl,HD.out _⟩
               ·have d3:((T[k].toNat:Int)==88)=false:=by rw[beq_eq_false_iff_ne];omega
                have d4:((T[k].toNat:Int) != 88)=true:=by rw[bne,d3];rfl
                have d5:decide ((T[k].toNat:Int)=88)=false:=decide_eq_false (by omega);have d6:decide (¬(T[k].toNat:Int)=88)=true:=decide_eq_true (by omega);have hix:=ixw_1;have HR:Hid (∀n,Calls Tryz.prog 37 #[.slice ga gn gc,.int .i64 4] (wr.drewN n) fun e w'=>e= .returned (.int .i64 rw0)∧w'=wr.drewN n):=fun n=>HRj.out _ (below_drewN HBe.out n)
                clear HRj;go_quiet (first|(go_at_call 37;exact Calls.quiet_of_same (HR.out _))|(go_at_call 17;exact Calls.quiet_of_same (HPj.out _)))
                go_wp2_with fail
                go_meet
                case rel=>exact⟨rfl,HD.out _⟩
               ·have d3:((T[k].toNat:Int)==89)=false:=by rw[beq_eq_false_iff_ne];omega
                have d4:((T[k].toNat:Int) != 89)=true:=by rw[bne,d3];rfl
                have d5:decide ((T[k].toNat:Int)=89)=false:=decide_eq_false (by omega);have d6:decide (¬(T[k].toNat:Int)=89)=true:=decide_eq_true (by omega);have hix:=ixw_2;have HR:Hid (∀n,Calls Tryz.prog 37 #[.slice ga gn gc,.int .i64 5] (wr.drewN n) fun e w'=>e= .returned (.int .i64 rw0)∧w'=wr.drewN n):=fun n=>HRj.out _ (below_drewN HBe.out n)
                clear HRj;go_quiet (first|(go_at_call 37;exact Calls.quiet_of_same (HR.out _))|(go_at_call 17;exact Calls.quiet_of_same (HPj.out _)))
                go_wp2_with fail
                go_meet
                case rel=>exact⟨rfl,HD.out _⟩
               ·have d3:((T[k].toNat:Int)==90)=false:=by rw[beq_eq_false_iff_ne];omega
                have d4:((T[k].toNat:Int) != 90)=true:=by rw[bne,d3];rfl
                have d5:decide ((T[k].toNat:Int)=90)=false:=decide_eq_false (by omega);have d6:decide (¬(T[k].toNat:Int)=90)=true:=decide_eq_true (by omega);have hix:=ixw_3;have HR:Hid (∀n,Calls Tryz.prog 37 #[.slice ga gn gc,.int .i64 6] (wr.drewN n) fun e w'=>e= .returned (.int .i64 rw0)∧w'=wr.drewN n):=fun n=>HRj.out _ (below_drewN HBe.out n)
                clear HRj;go_quiet (first|(go_at_call 37;exact Calls.quiet_of_same (HR.out _))|(go_at_call 17;exact Calls.quiet_of_same (HPj.out _)))
                go_wp2_with fail
                go_meet
                case rel=>exact⟨rfl,HD.out _⟩
             ·have h90':¬(T[k].toNat:Int)≤90:=by omega
              have d2:decide ((T[k].toNat:Int)≤90)=false:=decide_eq_false h90';clear HS5;go_quiet (fail)
              go_wp2_with fail
              go_meet
              case rel=>exact⟨rfl,HD.out _⟩
            ·have h87':¬(87:Int)≤(T[k].toNat:Int):=by omega
             have d1:decide ((87:Int)≤(T[k].toNat:Int))=false:=decide_eq_false h87';clear HS5;go_quiet (fail)
             go_wp2_with fail
             go_meet
             case rel=>exact⟨rfl,HD.out _⟩
          case rest=>
           as_aux_lemma=>
            obtain⟨rfl,HS6⟩:=hcut
            clear HS5
            go_wp2_with fail
            go_roundw
            case rel=>exact⟨k+1,by go_num,by omega,HS6⟩
            case measure=>simp[intOf];omega
         ·have hkt':¬(k:Int)<(T.size:Int):=by omega
          go_wp2_with fail
          go_roundw;case rel=>exact⟨c+1,by go_num,by omega,HS5⟩
          case measure=>simp[intOf];omega
       ·have hlt':¬(c:Int)<(css.length:Int):=by omega
        have HB:=hide' HS3.out.bel;clear HS3;go_wp2_with fail
        go_ret;exact⟨rfl,HB.out⟩
end Go.Proofs.YtlonjggfnleolaaGreatDoor
