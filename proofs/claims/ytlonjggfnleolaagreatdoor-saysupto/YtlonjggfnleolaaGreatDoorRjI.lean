/-
  The reference: no part waits for the ID that comes next; so that ID is free.
-/
import Derived.Test.YtlonjggfnleolaaGreatDoorRjH
namespace Go.Proofs.YtlonjggfnleolaaGreatDoor
open Go.RowKit Go.Shelf
set_option linter.unusedVariables false

theorem OffRow.at_ {w : World} {e : TypeId} {v : Value} {xs : List Value} (h : OffRow w e v xs) {i : Nat} {x : Value} (hx : xs[i]? = some x) : ∃ g off c, v = .slice (some ⟨g, off, none⟩) xs.length c ∧ xs.length ≤ c ∧ g < w.heap.size ∧ w.cell? ⟨g, off + i, none⟩ = some x := by
  rcases h with ⟨_, rfl⟩ | ⟨g, off, cap, cur, rfl, h1, h2, h3, h4⟩
  · simp at hx
  · exact ⟨g, off, cap, rfl, h2, blkLt h1, (blkCell h1 _).trans (h4 i x hx)⟩

set_option maxHeartbeats 2000000 in
set_option maxRecDepth 100000 in
theorem rwaits_none {w : World} {X sv pt win : Nat} {cv rv : Value} {cis : List RCliI} {cs : List CliS} {vs : List Nat} {ss : List SrvS} (h : RJunAt w X sv pt win cv rv cis cs vs ss) (hn : cis.length ≤ 1000) (hwl : ∀ s ∈ cs, s.waits.length ≤ 1000000 ∧ ∀ c ∈ s.waits, c.keys.length ≤ 4) {o : Nat} {s : SrvS} (hs : ss[o]? = some s) :
    Calls Tryz.prog 153 #[.pointer (some ⟨X, 0, none⟩), .int .i64 (o : Int), .int .i64 (s.next : Int)] w fun e w' => e = .returned (.tuple #[.pointer none, .pointer none, .int .i64 0]) ∧ w' = w := by
  obtain ⟨ca, cc, rfl⟩ := row_form h.crow
  have hb := h.blk
  unfold rjO at hb
  have c3 := blkCell hb 3
  simp at c3
  have hlX := blkLt hb
  have HC : Hid (∀ (j : Nat) (v : RCliI), cis[j]? = some v → ∃ g cap, Value.slice ca cis.length cc = .slice (some ⟨g, 0, none⟩) cis.length cap ∧ g < w.heap.size ∧ w.cell? ⟨g, j, none⟩ = some (.pointer (some ⟨v.K, 0, none⟩))) := fun j v hv => row_at h.crow (by simp) (by rw [List.getElem?_map, hv]; rfl)
  have HK : Hid (∀ (j : Nat) (v : RCliI), cis[j]? = some v → ∃ s, RCliOk w ss v s ∧ s.waits.length ≤ 1000000 ∧ ∀ c ∈ s.waits, c.keys.length ≤ 4) := fun j v hv => by
    obtain ⟨s, hs, hok⟩ := h.get hv
    exact ⟨s, hok, hwl s (List.mem_of_getElem? hs)⟩
  have HS := hide' hs
  clear h hb hwl hs
  generalize hnl : cis.length = n at *
  have HN := hide' hnl
  clear hnl
  generalize hnx : s.next = nx at *
  have HX := hide' hnx
  clear hnx
  go_enter Tryz.func153, Tryz.ntmps153
  go_wp2
  go_loop [9, 10, 11, 12, 13] (fun i _ _ _ _ => ∃ j : Nat, i = .int .i64 (j : Int) ∧ j ≤ n) (fun i _ _ _ _ => n - (intOf i).toNat)
  case atStart => exact ⟨0, rfl, Nat.zero_le _⟩
  case round =>
    obtain ⟨j, rfl, hj⟩ := hrel
    by_cases hlt : j < n
    · have hlt' : (j : Int) < (n : Int) := by omega
      obtain ⟨v, hv⟩ : ∃ v, cis[j]? = some v := ⟨_, List.getElem?_eq_getElem (by rw [HN.out]; exact hlt)⟩
      obtain ⟨g, cap, hv2, hgl, hgc⟩ := HC.out j v hv
      cases hv2
      obtain ⟨s1, hok, hwl, hkl⟩ := HK.out j v hv
      have hK := hok.blk
      unfold rcO at hK
      have k2 := blkCell hK 2
      simp at k2
      have hKl := blkLt hK
      obtain ⟨wa, wc, hwv⟩ := hok.row.len
      rw [List.length_map] at hwv
      rw [hwv] at k2
      have HRow : Hid (OffRow w 263 (.slice wa v.ws.length wc) (v.ws.map (fun u => ptrV u.B))) := by rw [← hwv]; exact hok.row
      have HWs : Hid (∀ (k : Nat) (u : RWaitI), v.ws[k]? = some u → ∃ c, RWaitOk w ss c u ∧ c.keys.length ≤ 4) := fun k u hu => by
        have hk2 : k < s1.waits.length := by rw [← hok.len]; exact (List.getElem?_eq_some_iff.1 hu).1
        exact ⟨_, (hok.ok k u _ hu (List.getElem?_eq_getElem hk2)).1, hkl _ (List.getElem_mem hk2)⟩
      have hwn : v.ws.length ≤ 1000000 := by rw [hok.len]; exact hwl
      clear hok hK hwv hkl hwl hv
      generalize hml : v.ws.length = m at *
      have HM := hide' hml
      clear hml
      go_wp2
      go_loop [11, 12, 13] (fun k _ _ => ∃ q : Nat, k = .int .i64 (q : Int) ∧ q ≤ m) (fun k _ _ => m - (intOf k).toNat)
      case atStart => exact ⟨0, rfl, Nat.zero_le _⟩
      case round =>
        obtain ⟨q, rfl, hq⟩ := hrel
        by_cases hlq : q < m
        · have hlq' : (q : Int) < (m : Int) := by omega
          obtain ⟨u, hu⟩ : ∃ u, v.ws[q]? = some u := ⟨_, List.getElem?_eq_getElem (by rw [HM.out]; exact hlq)⟩
          obtain ⟨g2, off, c2, hv3, hc2, hg2l, hg2c⟩ := HRow.out.at_ (i := q) (x := ptrV u.B) (by rw [List.getElem?_map, hu]; rfl)
          rw [List.length_map, HM.out] at hv3 hc2
          cases hv3
          unfold ptrV at hg2c
          obtain ⟨c, hwok, hk4⟩ := HWs.out q u hu
          have hB := hwok.blk
          unfold rwO at hB
          have b6 := blkCell hB 6
          simp at b6
          have hBl := blkLt hB
          obtain ⟨pa, pc, hpv⟩ := row_form hwok.row
          rw [hpv] at b6
          have HPs : Hid (∀ (r : Nat) (p : RPart), u.ps[r]? = some p → (∃ g cap, Value.slice pa u.ps.length pc = .slice (some ⟨g, 0, none⟩) u.ps.length cap ∧ g < w.heap.size ∧ w.cell? ⟨g, r, none⟩ = some (.pointer (some ⟨p.B, 0, none⟩))) ∧ RPartOk w ss p) := fun r p hp => ⟨by
            have := row_at hwok.row (by simp) (i := r) (x := ptrV p.B) (by rw [List.getElem?_map, hp]; rfl)
            rw [hpv] at this
            exact this, hwok.ok p (List.mem_of_getElem? hp)⟩
          have hpn : u.ps.length ≤ 4 := by rw [hwok.len]; exact hk4
          clear hwok hB hpv hk4 hu
          generalize hpl : u.ps.length = pn at *
          have HP := hide' hpl
          clear hpl
          go_wp2
          go_loop [12, 13] (fun k _ => ∃ r : Nat, k = .int .i64 (r : Int) ∧ r ≤ pn) (fun k _ => pn - (intOf k).toNat)
          case atStart => exact ⟨0, rfl, Nat.zero_le _⟩
          case round =>
            obtain ⟨r, rfl, hr⟩ := hrel
            by_cases hlr : r < pn
            · have hlr' : (r : Int) < (pn : Int) := by omega
              obtain ⟨p, hp⟩ : ∃ p, u.ps[r]? = some p := ⟨_, List.getElem?_eq_getElem (by rw [HP.out]; exact hlr)⟩
              obtain ⟨⟨g3, c3', hv4, hg3l, hg3c⟩, hpok⟩ := HPs.out r p hp
              cases hv4
              obtain ⟨kd, val, hpb⟩ := hpok.blk
              obtain ⟨sp, hsp, hplt⟩ := hpok.lt
              unfold rpO at hpb
              have p0 := blkCell hpb 0
              have p1 := blkCell hpb 1
              have p2 := blkCell hpb 2
              simp at p0 p1 p2
              have hpbl := blkLt hpb
              by_cases ho : p.o = o
              · have hid : ¬ (p.id : Int) = (nx : Int) := by
                  have e1 := HS.out
                  rw [ho, e1] at hsp
                  cases hsp
                  have := HX.out
                  omega
                rw [ho] at p0
                clear hpok hpb hsp hp
                go_wp2
                go_round
                case rel => exact ⟨r + 1, by go_num, by omega⟩
                case measure => simp [intOf]; omega
              · have ho' : ¬ (p.o : Int) = (o : Int) := by omega
                clear hpok hpb hsp hp
                go_wp2
                go_round
                case rel => exact ⟨r + 1, by go_num, by omega⟩
                case measure => simp [intOf]; omega
            · have hlr' : ¬ (r : Int) < (pn : Int) := by omega
              go_wp2
              go_round
              case rel => exact ⟨q + 1, by go_num, by omega⟩
              case measure => simp [intOf]; omega
        · have hlq' : ¬ (q : Int) < (m : Int) := by omega
          go_wp2
          go_round
          case rel => exact ⟨j + 1, by go_num, by omega⟩
          case measure => simp [intOf]; omega
    · have hlt' : ¬ (j : Int) < (n : Int) := by omega
      go_wp2
      refine bodyPost_ret (v := .tuple #[.pointer none, .pointer none, .int .i64 0]) (by simp [results, Tryz.results153, go_sem]) rfl ⟨rfl, rfl⟩

set_option maxHeartbeats 1000000 in
set_option maxRecDepth 100000 in
theorem rfree_next {w : World} {X sv pt win : Nat} {cv rv : Value} {cis : List RCliI} {cs : List CliS} {vs : List Nat} {ss : List SrvS} (h : RJunAt w X sv pt win cv rv cis cs vs ss) (hn : cis.length ≤ 1000) (hwl : ∀ s ∈ cs, s.waits.length ≤ 1000000 ∧ ∀ c ∈ s.waits, c.keys.length ≤ 4) {o : Nat} {s : SrvS} (hs : ss[o]? = some s) :
    Calls Tryz.prog 175 #[.pointer (some ⟨X, 0, none⟩), .int .i64 (o : Int), .int .i64 (s.next : Int)] w fun e w' => e = .returned (.int .i64 (s.next : Int)) ∧ w' = w := by
  have HW := hide' (rwaits_none h hn hwl hs)
  clear h hn hwl hs
  generalize s.next = nx at *
  go_enter Tryz.func175, Tryz.ntmps175
  go_wp2
  go_loop [2, 7, 8, 9] (fun i _ _ _ => i = .int .i64 (nx : Int)) (fun _ _ _ _ => 0)
  case atStart => rfl
  case round =>
    subst hrel
    go_wp2_with fail
    go_at_call 153
    refine HW.out.mono ?_
    rintro e w1 ⟨rfl, rfl⟩
    go_wp2
    go_ret
    exact ⟨rfl, rfl⟩
end Go.Proofs.YtlonjggfnleolaaGreatDoor
