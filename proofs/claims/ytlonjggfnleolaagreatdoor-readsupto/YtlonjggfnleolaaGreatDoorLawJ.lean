/-
  looks: every list reads as its owner wrote it.
-/
import Derived.Test.YtlonjggfnleolaaGreatDoorLawI
namespace Go.Proofs.YtlonjggfnleolaaGreatDoor
open Go.RowKit Go.Shelf
set_option linter.unusedVariables false

theorem marks_at : ∀ (n : Nat) (id : Int) (k q : Nat), k < n → q < 6 → (marks n id)[k * 6 + q]? = [Value.int .i64 0, .slice none 0 0, .string ⟨#[]⟩, .string ⟨#[]⟩, .bool false, .int .i64 id][q]? := by
  intro n
  induction n with
  | zero => intro id k q h; omega
  | succ n ih =>
    intro id k q hk hq
    have e : marks (n + 1) id = [Value.int .i64 0, .slice none 0 0, .string ⟨#[]⟩, .string ⟨#[]⟩, .bool false, .int .i64 id] ++ marks n id := by unfold marks; rw [List.replicate_succ, List.flatten_cons]
    rw [e]
    cases k with
    | zero => rw [List.getElem?_append_left (by simp; omega)]; simp
    | succ k =>
      rw [List.getElem?_append_right (by simp; omega)]
      have e2 : (k + 1) * 6 + q - [Value.int .i64 0, .slice none 0 0, .string ⟨#[]⟩, .string ⟨#[]⟩, .bool false, .int .i64 id].length = k * 6 + q := by simp; omega
      rw [e2]
      exact ih id k q (by omega) hq

set_option maxRecDepth 20000 in
set_option maxHeartbeats 4000000 in
theorem looks_law (B lo nx : Nat) (S : Nat → Prop) (rv csv cmv ssv smv : Value) (M : List TxM) (N : List CmM) (w : World) (hO : OwnW w lo B S rv M N nx csv cmv ssv smv) (hM : M.length ≤ 1000000000000000) (hN : N.length ≤ 1000000000000000) :
    Calls Tryz.prog 42 #[.pointer (some ⟨B, 0, none⟩)] w fun e w' => e = .returned (.bool true) ∧ Below w.heap.size w w' := by
  have HC : Hid (∀ wr, Below w.heap.size w wr → wr.cell? ⟨B, 2, none⟩ = some csv ∧ wr.cell? ⟨B, 3, none⟩ = some cmv ∧ wr.cell? ⟨B, 4, none⟩ = some ssv ∧ wr.cell? ⟨B, 5, none⟩ = some smv) := fun wr hb => ⟨(hb.cell (p := ⟨B, 2, none⟩) (blkLt hO.wd)).trans (blkCell hO.wd 2), (hb.cell (p := ⟨B, 3, none⟩) (blkLt hO.wd)).trans (blkCell hO.wd 3), (hb.cell (p := ⟨B, 4, none⟩) (blkLt hO.wd)).trans (blkCell hO.wd 4), (hb.cell (p := ⟨B, 5, none⟩) (blkLt hO.wd)).trans (blkCell hO.wd 5)⟩
  have hBl := blkLt hO.wd
  have HO := hide' hO
  obtain ⟨ca, cc, rfl⟩ := hO.cs.form
  obtain ⟨ma, mc, rfl⟩ := hO.cm.form
  obtain ⟨sa, sc, rfl⟩ := hO.ss.form
  obtain ⟨ta, tc, rfl⟩ := hO.sm.form
  clear hO
  generalize hml : M.length = ml at *
  generalize hnl : N.length = nl at *
  have HML := hide' hml
  have HNL := hide' hnl
  clear hml hnl
  have tb := toList_beq
  obtain ⟨c2, c3, c4, c5⟩ := HC.out w (Below.refl _ _)
  go_enter Tryz.func42, Tryz.ntmps42
  go_wp2
  go_loopw [3, 4] (fun i k wr => ∃ j : Nat, i = .int .i64 (j : Int) ∧ j ≤ ml ∧ Hid (Below w.heap.size w wr)) (fun i _ _ => ml - (intOf i).toNat)
  case atStart => exact ⟨0, rfl, Nat.zero_le _, Below.refl _ _⟩
  case round =>
    obtain ⟨j, rfl, hj, HJ⟩ := hrel
    clear c2 c3 c4 c5
    obtain ⟨c2, c3, c4, c5⟩ := HC.out wr HJ.out
    by_cases hlt : j < ml
    · obtain ⟨e, he⟩ : ∃ e, M[j]? = some e := ⟨_, List.getElem?_eq_getElem (by have := HML.out; omega)⟩
      obtain ⟨sg, sc', hv, hsc, hsgl, hsgc⟩ := row_any (j := j) (u := e.v) HO.out.ss (by rw [List.getElem?_map, he]; rfl)
      rw [HML.out] at hv
      cases hv
      obtain ⟨tg, tc', hv, htc, htgl, htgc⟩ := row_any (j := j) (u := .string e.m) HO.out.sm (by rw [List.getElem?_map, he]; rfl)
      rw [HML.out] at hv
      cases hv
      have HE := hide' (HO.out.tk e (List.mem_of_getElem? he)).1
      obtain ⟨va, vc, hv⟩ := HE.out.form
      have hen := e.le
      rw [HML.out] at hsc htc
      have HE2 : Hid (Row w lo 9 1 (.slice va e.n vc) e.n (List.replicate e.n (.string e.m))) := by have := HE.out; rw [hv] at this; exact this
      rw [hv] at hsgc
      clear HE he hv
      generalize e.n = en at *
      generalize e.m = em at *
      have s0 := (HJ.out.cell (p := ⟨sg, j, none⟩) hsgl).trans hsgc
      have hlt' : (j : Int) < (ml : Int) := by omega
      go_wp2
      go_loopw [4] (fun k w2 => ∃ q : Nat, k = .int .i64 (q : Int) ∧ q ≤ en ∧ Hid (Below w.heap.size w w2)) (fun k _ => en - (intOf k).toNat)
      case atStart => exact ⟨0, rfl, Nat.zero_le _, HJ⟩
      case round =>
        obtain ⟨q, rfl, hq, HQ⟩ := hrel
        clear c2 c3 c4 c5 s0
        obtain ⟨c2, c3, c4, c5⟩ := HC.out wr HQ.out
        have s0 := (HQ.out.cell (p := ⟨sg, j, none⟩) hsgl).trans hsgc
        have t0 := (HQ.out.cell (p := ⟨tg, j, none⟩) htgl).trans htgc
        by_cases hlq : q < en
        · obtain ⟨vg, vc', hv, hvc, hvgl, hvgc⟩ := row_any (j := q) (u := .string em) HE2.out (by rw [List.getElem?_replicate, if_pos hlq])
          cases hv
          have v0 := (HQ.out.cell (p := ⟨vg, q, none⟩) hvgl).trans hvgc
          have hlq' : (q : Int) < (en : Int) := by omega
          go_wp2
          go_quiet (fail)
          go_wp2
          go_roundw
          case rel => exact ⟨q + 1, by go_num, by omega, below_drewN HQ.out _⟩
          case measure => simp [intOf]; omega
        · have hlq' : ¬ (q : Int) < (en : Int) := by omega
          go_wp2
          go_roundw
          case rel => exact ⟨j + 1, by go_num, by omega, HQ⟩
          case measure => simp [intOf]; omega
    · have hlt' : ¬ (j : Int) < (ml : Int) := by omega
      go_wp2
      clear c4 c5
      go_loopw [5, 6, 7] (fun i k c wr => ∃ j : Nat, i = .int .i64 (j : Int) ∧ j ≤ nl ∧ Hid (Below w.heap.size w wr)) (fun i _ _ _ => nl - (intOf i).toNat)
      case atStart => exact ⟨0, rfl, Nat.zero_le _, HJ⟩
      case round =>
        obtain ⟨i, rfl, hi, HI⟩ := hrel
        clear c2 c3
        obtain ⟨c2, c3, c4, c5⟩ := HC.out wr HI.out
        clear c4 c5
        by_cases hli : i < nl
        · obtain ⟨e, he⟩ : ∃ e, N[i]? = some e := ⟨_, List.getElem?_eq_getElem (by have := HNL.out; omega)⟩
          obtain ⟨sg, sc', hv, hsc, hsgl, hsgc⟩ := row_any (j := i) (u := e.v) HO.out.cs (by rw [List.getElem?_map, he]; rfl)
          rw [HNL.out] at hv
          cases hv
          obtain ⟨tg, tc', hv, htc, htgl, htgc⟩ := row_any (j := i) (u := .int .i64 e.id) HO.out.cm (by rw [List.getElem?_map, he]; rfl)
          rw [HNL.out] at hv
          cases hv
          have HE := hide' (HO.out.nk e (List.mem_of_getElem? he)).1
          obtain ⟨va, vc, hv⟩ := HE.out.form
          have hen := e.le
          rw [HNL.out] at hsc htc
          have HE2 : Hid (Row w lo 36 6 (.slice va e.n vc) e.n (marks e.n e.id)) := by have := HE.out; rw [hv] at this; exact this
          rw [hv] at hsgc
          clear HE he hv
          generalize e.n = en at *
          generalize e.id = ei at *
          have s0 := (HI.out.cell (p := ⟨sg, i, none⟩) hsgl).trans hsgc
          have hli' : (i : Int) < (nl : Int) := by omega
          go_wp2
          go_loopw [6, 7] (fun k c w2 => ∃ q : Nat, k = .int .i64 (q : Int) ∧ q ≤ en ∧ Hid (Below w.heap.size w w2)) (fun k _ _ => en - (intOf k).toNat)
          case atStart => exact ⟨0, rfl, Nat.zero_le _, HI⟩
          case round =>
            obtain ⟨q, rfl, hq, HQ⟩ := hrel
            clear c2 c3 s0
            obtain ⟨c2, c3, c4, c5⟩ := HC.out wr HQ.out
            clear c4 c5
            have s0 := (HQ.out.cell (p := ⟨sg, i, none⟩) hsgl).trans hsgc
            have t0 := (HQ.out.cell (p := ⟨tg, i, none⟩) htgl).trans htgc
            by_cases hlq : q < en
            · have hat : ∀ m, m < 6 → ∀ u, [Value.int .i64 0, .slice none 0 0, .string ⟨#[]⟩, .string ⟨#[]⟩, .bool false, .int .i64 ei][m]? = some u → ∃ vg vc', (Value.slice va en vc) = .slice (some ⟨vg, 0, none⟩) en vc' ∧ en ≤ vc' ∧ vg < w.heap.size ∧ w.cell? ⟨vg, q * 6 + m, none⟩ = some u := fun m hm u hu => row_any HE2.out (by rw [marks_at en ei q m hlq hm]; exact hu)
              obtain ⟨vg, vc', hv, hvc, hvgl, hvgc⟩ := hat 0 (by omega) _ rfl
              cases hv
              have hall : ∀ m, m < 6 → ∀ u, [Value.int .i64 0, .slice none 0 0, .string ⟨#[]⟩, .string ⟨#[]⟩, .bool false, .int .i64 ei][m]? = some u → wr.cell? ⟨vg, q * 6 + m, none⟩ = some u := fun m hm u hu => by
                obtain ⟨vg2, vc2, hv, _, _, hc⟩ := hat m hm u hu
                cases hv
                exact (HQ.out.cell (p := ⟨vg, q * 6 + m, none⟩) hvgl).trans hc
              have v0 := hall 0 (by omega) _ rfl
              have v1 := hall 1 (by omega) _ rfl
              have v2 := hall 2 (by omega) _ rfl
              have v3 := hall 3 (by omega) _ rfl
              have v4 := hall 4 (by omega) _ rfl
              have v5 := hall 5 (by omega) _ rfl
              rw [Nat.add_zero] at v0
              have hlq' : (q : Int) < (en : Int) := by omega
              have hwl := HQ.out.size
              have hB2 : B < wr.heap.size := by omega
              have hB3 : ¬ B = wr.heap.size := by omega
              have ht2 : tg < wr.heap.size := by omega
              have ht3 : ¬ tg = wr.heap.size := by omega
              clear hat hall hvgc
              go_wp2
              go_quiet (fail)
              go_wp2
              go_roundw
              case rel => exact ⟨q + 1, by go_num, by omega, below_drewN (HQ.out.alloc hwl _) _⟩
              case measure => simp [intOf]; omega
            · have hlq' : ¬ (q : Int) < (en : Int) := by omega
              go_wp2
              go_roundw
              case rel => exact ⟨i + 1, by go_num, by omega, HQ⟩
              case measure => simp [intOf]; omega
        · have hli' : ¬ (i : Int) < (nl : Int) := by omega
          go_wp2
          go_ret
          exact ⟨rfl, HI.out⟩
end Go.Proofs.YtlonjggfnleolaaGreatDoor
