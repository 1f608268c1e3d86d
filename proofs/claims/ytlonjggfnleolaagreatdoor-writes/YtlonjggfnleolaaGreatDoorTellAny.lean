/-
  Tell, in one contract, of the program and of the reference.
-/
import Derived.Test.YtlonjggfnleolaaGreatDoorLsFound
import Derived.Test.YtlonjggfnleolaaGreatDoorTells
namespace Go.Proofs.YtlonjggfnleolaaGreatDoor
open Go.RowKit
set_option linter.unusedVariables false

set_option maxRecDepth 20000 in
set_option maxHeartbeats 1000000 in
theorem liTell_found (a fa va : Option Addr) (n c fc vc : Nat) (ss : List ByteArray) (bs : List Bool) (vs : List ByteArray) (val cw : ByteArray) (ft : Bool) (cid : Int) (wd : ByteArray) (id : Int) (w : World) (hs : StrsIn w a n c ss) (hf : BoolsIn w fa n fc bs) (hv : StrsIn w va n vc vs) (hn : n ≤ 4) (hk8 : ∀ s ∈ ss, s.size ≤ 8) (hv40 : ∀ s ∈ vs, s.size ≤ 40) :
    Calls Tryz.prog 212 #[.agg #[], cmdV6 1 (.slice a n c) val cw ft cid, ansV 1 (.slice fa n fc) (.slice va n vc) wd, .int .i64 id] w fun e w' => e = .returned (.string (liFold (bs.zip (ss.zip vs)) ++ ⟨#[101, 110, 100, 10]⟩)) ∧ Below w.heap.size w w' := by
  have HB3 := hide' (show ∀ x y z, Below w.heap.size w (((w.alloc x).alloc y).alloc z) from fun x y z => (((Below.refl _ _).alloc (Nat.le_refl _) _).alloc (by simp) _).alloc (by simp; omega) _)
  have HC := hide' (fun x y z => tellFound_any a fa va n c fc vc ss bs vs wd _ (hs.later (HB3.out x y z)) (hf.later (HB3.out x y z)) (hv.later (HB3.out x y z)) hn hk8 hv40)
  clear hs hf hv hk8 hv40
  generalize liFold (bs.zip (ss.zip vs)) ++ ⟨#[101, 110, 100, 10]⟩ = out at *
  unfold cmdV6 ansV at *
  go_enter Tryz.func212, Tryz.ntmps212
  go_wp2_with fail
  go_at_call 219
  refine (HC.out _ _ _).mono ?_
  rintro e w1 ⟨rfl, hb1⟩
  have H1 := hide' ((HB3.out _ _ _).trans (hb1.mono (by simp; omega)))
  clear hb1
  go_wp2
  go_ret
  exact ⟨rfl, H1.out⟩

set_option maxRecDepth 20000 in
set_option maxHeartbeats 1000000 in
theorem lsTell_found (ck : Int) (kv : Value) (fa va : Option Addr) (n fc vc : Nat) (bs : List Bool) (vs : List ByteArray) (val cw : ByteArray) (ft : Bool) (cid : Int) (wd : ByteArray) (id : Int) (w : World) (hf : BoolsIn w fa n fc bs) (hv : StrsIn w va n vc vs) (hn1 : 1 ≤ n) (hn : n ≤ 4) (hv40 : ∀ s ∈ vs, s.size ≤ 40) :
    Calls Tryz.prog 252 #[.agg #[], cmdV6 ck kv val cw ft cid, ansV 1 (.slice fa n fc) (.slice va n vc) wd, .int .i64 id] w fun e w' => e = .returned (.string (lsVals n (bs.zip vs))) ∧ Below w.heap.size w w' := by
  have HB3 := hide' (show ∀ x y z, Below w.heap.size w (((w.alloc x).alloc y).alloc z) from fun x y z => (((Below.refl _ _).alloc (Nat.le_refl _) _).alloc (by simp) _).alloc (by simp; omega) _)
  have HC : Hid (∀ x y z, Calls Tryz.prog 257 #[ansV 1 (.slice fa n fc) (.slice va n vc) wd] (((w.alloc x).alloc y).alloc z) fun e w' => e = .returned (.string (lsVals n (bs.zip vs))) ∧ Below (((w.alloc x).alloc y).alloc z).heap.size (((w.alloc x).alloc y).alloc z) w') := fun x y z => by
    by_cases h1 : n = 1
    · exact tellTexts_one fa va n fc vc bs vs wd _ (hf.later (HB3.out x y z)) (hv.later (HB3.out x y z)) hn h1 hv40
    · exact tellTexts_more fa va n fc vc bs vs wd _ (hf.later (HB3.out x y z)) (hv.later (HB3.out x y z)) hn (by omega) hv40
  clear hf hv hv40
  generalize lsVals n (bs.zip vs) = out at *
  unfold cmdV6 ansV at *
  go_enter Tryz.func252, Tryz.ntmps252
  go_wp2_with fail
  go_at_call 257
  refine (HC.out _ _ _).mono ?_
  rintro e w1 ⟨rfl, hb1⟩
  have H1 := hide' ((HB3.out _ _ _).trans (hb1.mono (by simp; omega)))
  clear hb1
  go_wp2
  go_ret
  exact ⟨rfl, H1.out⟩

/-- The bytes that Tell writes. -/
def tellS (d ck ak : Int) (ss : List ByteArray) (bs : List Bool) (vs : List ByteArray) (wd : ByteArray) (id : Int) : ByteArray :=
  if d = 1 then (if ak = 1 then liFold (bs.zip (ss.zip vs)) ++ ⟨#[101, 110, 100, 10]⟩ else liTellB ak wd)
  else if d = 2 then (if ak = 1 then headB 2 (bif bs.headD false then 0 else 1) 0 (vs.headD ⟨#[]⟩).size id ++ vs.headD ⟨#[]⟩ else headB 2 (stB ak) 0 0 (tidB ck id))
  else (if ak = 1 then lsVals ss.length (bs.zip vs) else lsTellB ak wd)

structure Found (ss : List ByteArray) (bs : List Bool) (vs : List ByteArray) : Prop where
  bl : bs.length = ss.length
  vl : vs.length = ss.length
  l1 : 1 ≤ ss.length
  l4 : ss.length ≤ 4
  k8 : ∀ s ∈ ss, s.size ≤ 8
  v40 : ∀ s ∈ vs, s.size ≤ 40
  ok : ∀ p ∈ bs.zip vs, findOk p = true

theorem answer_parts {ck : Int} {ss : List ByteArray} {val : ByteArray} {ak : Int} {bs : List Bool} {vs : List ByteArray} {wd : ByteArray} (h : answerB ck ss val ak bs vs wd = true) :
    (ak = 1 ∧ ck = 1 ∧ Found ss bs vs) ∨ (ak ≠ 1 ∧ (ak = 2 ∨ ak = 3 ∨ ak = 4 ∨ ak = 5) ∧ (ak = 5 → wd.size ≤ 8)) := by
  unfold answerB at h
  rw [Bool.and_eq_true] at h
  obtain ⟨h1, h2⟩ := h
  by_cases e1 : ak = 1
  · subst e1
    rw [if_pos rfl, Bool.and_eq_true, decide_eq_true_eq] at h2
    obtain ⟨rfl, h2⟩ := h2
    left
    refine ⟨rfl, rfl, ?_⟩
    have R := right_of (show cmdB 1 ss val = true by simpa using h1)
    unfold findsB at h2
    rw [Bool.and_eq_true, Bool.and_eq_true, decide_eq_true_eq, decide_eq_true_eq] at h2
    obtain ⟨⟨h3, h4⟩, h5⟩ := h2
    have h5 := List.all_eq_true.1 h5
    refine ⟨by omega, by omega, R.len1, R.len4, R.keys, ?_, h5⟩
    intro s hs
    obtain ⟨i, hi, rfl⟩ := List.mem_iff_getElem.1 hs
    have hm : (bs[i]'(by omega), vs[i]) ∈ bs.zip vs := List.mem_iff_getElem.2 ⟨i, by simp; omega, by simp⟩
    have := h5 _ hm
    unfold findOk at this
    rw [Bool.and_eq_true, decide_eq_true_eq] at this
    have := this.1
    simp only at this
    omega
  · right
    rw [if_neg e1] at h2
    refine ⟨e1, ?_⟩
    by_cases e2 : ak = 2
    · exact ⟨.inl e2, fun h => by omega⟩
    rw [if_neg e2] at h2
    by_cases e3 : ak = 3 ∨ ak = 4
    · exact ⟨by omega, fun h => by omega⟩
    rw [if_neg e3] at h2
    by_cases e5 : ak = 5
    · rw [if_pos e5] at h2
      refine ⟨by omega, fun _ => ?_⟩
      unfold wordB at h2
      rw [Bool.and_eq_true] at h2
      have := h2.1
      simp only [withinB, Bool.and_eq_true, decide_eq_true_eq] at this
      omega
    · rw [if_neg e5] at h2; cases h2

theorem frSay_id {ck : Int} {n : Nat} {id : Int} (h : frSayB ck n id = true) : 0 ≤ id ∧ id ≤ 65535 ∧ (ck = 1 → n ≤ 1) := by
  unfold frSayB at h
  simp at h
  refine ⟨by omega, by omega, fun h1 => ?_⟩
  omega

theorem say2 {ck : Int} {n : Nat} {id : Int} : sayB 2 ck n id = frSayB ck n id := by
  unfold sayB dialB
  simp

theorem list1 {α : Type} {l : List α} (h : l.length = 1) : ∃ x, l = [x] := by
  match l, h with
  | [x], _ => exact ⟨x, rfl⟩

theorem one_bools {w : World} {fa : Option Addr} {n fc : Nat} {f : Bool} (h : BoolsIn w fa n fc [f]) : n = 1 ∧ 1 ≤ fc ∧ ∃ b o, fa = some ⟨b, o, none⟩ ∧ b < w.heap.size ∧ w.cell? ⟨b, o, none⟩ = some (.bool f) := by
  have hl := h.len
  have hc := h.cap
  simp at hl
  subst hl
  obtain ⟨b, o, h1, h2, h3⟩ := h.at 0 f rfl
  exact ⟨rfl, hc, b, o, h1, h2, h3⟩
theorem one_strs {w : World} {fa : Option Addr} {n fc : Nat} {f : ByteArray} (h : StrsIn w fa n fc [f]) : n = 1 ∧ 1 ≤ fc ∧ ∃ b o, fa = some ⟨b, o, none⟩ ∧ b < w.heap.size ∧ w.cell? ⟨b, o, none⟩ = some (.string f) := by
  have hl := h.len
  have hc := h.cap
  simp at hl
  subst hl
  obtain ⟨b, o, h1, h2, h3⟩ := h.at 0 f rfl
  exact ⟨rfl, hc, b, o, h1, h2, h3⟩

theorem tell_any (d ck : Int) (a : Option Addr) (n c : Nat) (ss : List ByteArray) (val cw : ByteArray) (ft : Bool) (cid : Int) (ak : Int) (fa va : Option Addr) (fn fc vn vc : Nat) (bs : List Bool) (vs : List ByteArray) (wd : ByteArray) (id : Int) (w : World) (hs : StrsIn w a n c ss) (hval : val.size ≤ maxLen) (hf : BoolsIn w fa fn fc bs) (hv : StrsIn w va vn vc vs) (hw : wd.size ≤ maxLen) :
    Calls Tryz.prog 87 #[.int .i64 d, cmdV6 ck (.slice a n c) val cw ft cid, ansV ak (.slice fa fn fc) (.slice va vn vc) wd, .int .i64 id] w fun e w' => e = .returned (saidV (answerB ck ss val ak bs vs wd && sayB d ck n id) (tellS d ck ak ss bs vs wd id)) ∧ Below w.heap.size w w' := by
  have hsl := hs.len
  have hfl := hf.len
  have hvl := hv.len
  by_cases g1 : d = 1
  · subst g1
    rcases hcb : answerB ck ss val ak bs vs wd with _ | _
    · exact tell_bad1 ck a n c ss val cw ft cid ak fa va fn fc vn vc bs vs wd id w hs hval hf hv hw hcb
    · refine tell_good1 ck a n c ss val cw ft cid ak fa va fn fc vn vc bs vs wd id w hs hval hf hv hw hcb (tellS 1 ck ak ss bs vs wd id) fun W hB => ?_
      rcases answer_parts hcb with ⟨rfl, rfl, F⟩ | ⟨h1, hk, h5⟩
      · obtain rfl : fn = n := by rw [← hfl, ← hsl]; exact F.bl
        obtain rfl : vn = fn := by rw [← hvl, ← hsl]; exact F.vl
        exact liTell_found a fa va _ c fc vc ss bs vs val cw ft cid wd id W (hs.later hB) (hf.later hB) (hv.later hB) (by rw [← hsl]; exact F.l4) F.k8 F.v40
      · have e : tellS 1 ck ak ss bs vs wd id = liTellB ak wd := by unfold tellS; rw [if_pos rfl, if_neg h1]
        rw [e]
        exact liTell_plain ck _ val cw ft cid ak _ _ wd id W hk h5
  by_cases g2 : d = 2
  · subst g2
    rcases hcb : answerB ck ss val ak bs vs wd with _ | _
    · exact tell_bad2 ck a n c ss val cw ft cid ak fa va fn fc vn vc bs vs wd id w hs hval hf hv hw hcb
    · rw [say2]
      rcases hcan : frSayB ck n id with _ | _
      · exact tell_nosay2 ck a n c ss val cw ft cid ak fa va fn fc vn vc bs vs wd id w hs hval hf hv hw hcb hcan
      · obtain ⟨i0, i1, hone⟩ := frSay_id hcan
        refine tell_good2 ck a n c ss val cw ft cid ak fa va fn fc vn vc bs vs wd id w hs hval hf hv hw hcb hcan (tellS 2 ck ak ss bs vs wd id) fun W hB => ?_
        rcases answer_parts hcb with ⟨rfl, rfl, F⟩ | ⟨h1, hk, h5⟩
        · have hn1 : ss.length = 1 := by have := hone rfl; have := F.l1; omega
          obtain ⟨f, rfl⟩ := list1 (F.bl.trans hn1)
          obtain ⟨x, rfl⟩ := list1 (F.vl.trans hn1)
          obtain ⟨rfl, hfc, fb, fo, rfl, hfb, hfcell⟩ := one_bools (hf.later hB)
          obtain ⟨rfl, hvc, vb, vo, rfl, hvb, hvcell⟩ := one_strs (hv.later hB)
          have hx := F.v40 x (by simp)
          exact frTell_found _ val cw ft cid f x fb fo fc vb vo vc wd id W i0 i1 hx hfc hvc hfb hvb hfcell hvcell
        · have e : tellS 2 ck ak ss bs vs wd id = headB 2 (stB ak) 0 0 (tidB ck id) := by unfold tellS; rw [if_neg (by decide), if_pos rfl, if_neg h1]
          rw [e]
          exact frTell_plain ck _ val cw ft cid ak _ _ wd id W h1 i0 i1
  by_cases g3 : d = 3
  · subst g3
    rcases hcb : answerB ck ss val ak bs vs wd with _ | _
    · exact tell_bad3 ck a n c ss val cw ft cid ak fa va fn fc vn vc bs vs wd id w hs hval hf hv hw hcb
    · refine tell_good3 ck a n c ss val cw ft cid ak fa va fn fc vn vc bs vs wd id w hs hval hf hv hw hcb (tellS 3 ck ak ss bs vs wd id) fun W hB => ?_
      rcases answer_parts hcb with ⟨rfl, rfl, F⟩ | ⟨h1, hk, h5⟩
      · obtain rfl : fn = n := by rw [← hfl, ← hsl]; exact F.bl
        obtain rfl : vn = fn := by rw [← hvl, ← hsl]; exact F.vl
        have e : tellS 3 1 1 ss bs vs wd id = lsVals vn (bs.zip vs) := by unfold tellS; rw [if_neg (by decide), if_neg (by decide), if_pos rfl, hsl]
        rw [e]
        exact lsTell_found 1 _ fa va _ fc vc bs vs val cw ft cid wd id W (hf.later hB) (hv.later hB) (by rw [← hsl]; exact F.l1) (by rw [← hsl]; exact F.l4) F.v40
      · have e : tellS 3 ck ak ss bs vs wd id = lsTellB ak wd := by unfold tellS; rw [if_neg (by decide), if_neg (by decide), if_neg h1]
        rw [e]
        exact lsTell_plain ck _ val cw ft cid ak _ _ wd id W hk h5
  have e : sayB d ck n id = false := by unfold sayB dialB; simp [g1, g2, g3]
  rw [e, Bool.and_false]
  exact tell_nodial d ck _ val cw ft cid ak _ _ wd id w g1 g2 g3

theorem reftell_any (d ck : Int) (a : Option Addr) (n c : Nat) (ss : List ByteArray) (val cw : ByteArray) (ft : Bool) (cid : Int) (ak : Int) (fa va : Option Addr) (fn fc vn vc : Nat) (bs : List Bool) (vs : List ByteArray) (wd : ByteArray) (id : Int) (w : World) (hs : StrsIn w a n c ss) (hval : val.size ≤ maxLen) (hf : BoolsIn w fa fn fc bs) (hv : StrsIn w va vn vc vs) (hw : wd.size ≤ maxLen) :
    Calls Tryz.prog 104 #[.int .i64 d, cmdV6 ck (.slice a n c) val cw ft cid, ansV ak (.slice fa fn fc) (.slice va vn vc) wd, .int .i64 id] w fun e w' => e = .returned (saidV (answerB ck ss val ak bs vs wd && sayB d ck n id) (tellS d ck ak ss bs vs wd id)) ∧ Below w.heap.size w w' := by
  have hsl := hs.len
  have hfl := hf.len
  have hvl := hv.len
  rcases hcb : answerB ck ss val ak bs vs wd with _ | _
  · exact refTell_bada d ck a n c ss val cw ft cid ak fa va fn fc vn vc bs vs wd id w hs hval hf hv hw hcb
  rcases hsay : sayB d ck n id with _ | _
  · exact refTell_badb d ck a n c ss val cw ft cid ak fa va fn fc vn vc bs vs wd id w hs hval hf hv hw hcb hsay
  by_cases g1 : d = 1
  · subst g1
    refine refTell_good1 ck a n c ss val cw ft cid ak fa va fn fc vn vc bs vs wd id w hs hval hf hv hw hcb (tellS 1 ck ak ss bs vs wd id) fun W hB => ?_
    rcases answer_parts hcb with ⟨rfl, rfl, F⟩ | ⟨h1, hk, h5⟩
    · obtain rfl : fn = n := by rw [← hfl, ← hsl]; exact F.bl
      obtain rfl : vn = fn := by rw [← hvl, ← hsl]; exact F.vl
      exact refLines_found a fa va _ c fc vc ss bs vs val cw ft cid wd W (hs.later hB) (hf.later hB) (hv.later hB) (by rw [← hsl]; exact F.l4) F.k8 F.v40
    · have e : tellS 1 ck ak ss bs vs wd id = liTellB ak wd := by unfold tellS; rw [if_pos rfl, if_neg h1]
      rw [e]
      exact refLines_plain ck _ val cw ft cid ak _ _ wd W hk h5
  by_cases g2 : d = 2
  · subst g2
    have hcan := hsay
    rw [say2] at hcan
    obtain ⟨i0, i1, hone⟩ := frSay_id hcan
    by_cases h4 : ck = 4
    · subst h4
      refine refTell_good2w a n c ss val cw ft cid ak fa va fn fc vn vc bs vs wd id w hs hval hf hv hw hcb hsay (tellS 2 4 ak ss bs vs wd id) fun W hB => ?_
      rcases answer_parts hcb with ⟨rfl, h, F⟩ | ⟨h1, hk, h5⟩
      · cases h
      · have e : tellS 2 4 ak ss bs vs wd id = headB 2 (stB ak) 0 0 0 := by unfold tellS; rw [if_neg (by decide), if_pos rfl, if_neg h1]; rfl
        rw [e]
        exact refFrames_plain ak _ _ wd 0 W h1 (by decide) (by decide)
    · refine refTell_good2 ck a n c ss val cw ft cid ak fa va fn fc vn vc bs vs wd id w hs hval hf hv hw (by simpa using h4) hcb hsay (tellS 2 ck ak ss bs vs wd id) fun W hB => ?_
      rcases answer_parts hcb with ⟨rfl, rfl, F⟩ | ⟨h1, hk, h5⟩
      · have hn1 : ss.length = 1 := by have := hone rfl; have := F.l1; omega
        obtain ⟨f, rfl⟩ := list1 (F.bl.trans hn1)
        obtain ⟨x, rfl⟩ := list1 (F.vl.trans hn1)
        obtain ⟨rfl, hfc, fb, fo, rfl, hfb, hfcell⟩ := one_bools (hf.later hB)
        obtain ⟨rfl, hvc, vb, vo, rfl, hvb, hvcell⟩ := one_strs (hv.later hB)
        have hx := F.v40 x (by simp)
        cases f with
        | true => exact refFrames_yes x fb fo fc vb vo vc wd id W i0 i1 hx hfc hvc hfb hvb hfcell hvcell
        | false =>
          have ho := F.ok (false, x) (by simp)
          have hx0 : x = ⟨#[]⟩ := by
            unfold findOk at ho
            simp at ho
            apply ba_ext
            simpa using ho.2
          subst hx0
          have e : tellS 2 1 1 ss [false] [⟨#[]⟩] wd id = headB 2 1 0 0 id := by
            unfold tellS
            rw [if_neg (by decide), if_pos rfl, if_pos rfl]
            show headB 2 1 0 0 id ++ ⟨#[]⟩ = _
            apply ba_ext; simp
          rw [e]
          exact refFrames_no fb fo fc _ wd id W i0 i1 hfc hfb hfcell
      · have e : tellS 2 ck ak ss bs vs wd id = headB 2 (stB ak) 0 0 id := by unfold tellS; rw [if_neg (by decide), if_pos rfl, if_neg h1]; unfold tidB; rw [if_neg h4]
        rw [e]
        exact refFrames_plain ak _ _ wd id W h1 i0 i1
  have g3 : d = 3 := by
    unfold sayB dialB at hsay
    simp [g1, g2] at hsay
    exact hsay
  subst g3
  refine refTell_good3 ck a n c ss val cw ft cid ak fa va fn fc vn vc bs vs wd id w hs hval hf hv hw hcb (tellS 3 ck ak ss bs vs wd id) fun W hB => ?_
  rcases answer_parts hcb with ⟨rfl, rfl, F⟩ | ⟨h1, hk, h5⟩
  · obtain rfl : fn = n := by rw [← hfl, ← hsl]; exact F.bl
    obtain rfl : vn = fn := by rw [← hvl, ← hsl]; exact F.vl
    have e : tellS 3 1 1 ss bs vs wd id = lsVals vn (bs.zip vs) := by unfold tellS; rw [if_neg (by decide), if_neg (by decide), if_pos rfl, hsl]
    rw [e]
    exact refLists_found fa va _ fc vc bs vs wd W (hf.later hB) (hv.later hB) (by rw [← hsl]; exact F.l4) F.v40
  · have e : tellS 3 ck ak ss bs vs wd id = lsTellB ak wd := by unfold tellS; rw [if_neg (by decide), if_neg (by decide), if_neg h1]
    rw [e]
    exact refLists_plain ak _ _ wd W hk h5
end Go.Proofs.YtlonjggfnleolaaGreatDoor
