/-
  What check.Command and the reference Command answer, for every command whose keys lie in memory.
-/
import Derived.Test.YtlonjggfnleolaaGreatDoorCmd
import Derived.Test.YtlonjggfnleolaaGreatDoorRefKey
namespace Go.Proofs.YtlonjggfnleolaaGreatDoor
open Go.RowKit
set_option linter.unusedVariables false

def cmdB (k : Int) (ss : List ByteArray) (val : ByteArray) : Bool :=
  if k = 1 then keysB ss 4 && val.toList.isEmpty else if k = 2 then keysB ss 1 && decide ((val.size : Int) ≤ 40) else if k = 3 then keysB ss 1 && val.toList.isEmpty else false

def cmdV6 (k : Int) (v : Value) (val wd : ByteArray) (ft : Bool) (id : Int) : Value := .agg #[.int .i64 k, v, .string val, .string wd, .bool ft, .int .i64 id]

theorem cmd_any (k : Int) (v : Value) (ss : List ByteArray) (val wd : ByteArray) (ft : Bool) (id : Int) (w : World) (h : StrsAt w v ss) (hv : val.size ≤ maxLen) :
    Calls Tryz.prog 48 #[cmdV6 k v val wd ft id] w fun e w' => e = .returned (.bool (cmdB k ss val)) ∧ Below w.heap.size w w' := by
  unfold cmdV6
  by_cases h1 : k = 1
  · subst h1; have := cmd_get v ss val wd ft id w h hv; simpa [cmdB] using this
  · by_cases h2 : k = 2
    · subst h2; have := cmd_set v ss val wd ft id w h hv; simpa [cmdB] using this
    · by_cases h3 : k = 3
      · subst h3; have := cmd_del v ss val wd ft id w h hv; simpa [cmdB] using this
      · have := cmd_other k v val wd ft id w h1 h2 h3; simpa [cmdB, h1, h2, h3] using this

theorem cmdB_bad {k : Int} {ss : List ByteArray} {val : ByteArray} {i : Nat} {s : ByteArray} (h : ss[i]? = some s) (hf : keyB s = false) : cmdB k ss val = false := by
  unfold cmdB
  rw [keysB_f2 h hf, keysB_f2 h hf]
  simp
theorem keysB_len {ss : List ByteArray} {most : Int} (h : (ss.take ss.length).all keyB = true) : keysB ss most = withinB 1 ss.length most := by
  rw [List.take_length] at h
  simp only [keysB, h, Bool.and_true]

set_option maxRecDepth 20000 in
set_option maxHeartbeats 4000000 in
theorem refcmd_any (k : Int) (v : Value) (ss : List ByteArray) (val wd : ByteArray) (ft : Bool) (id : Int) (w : World) (h : StrsAt w v ss) (hv : val.size ≤ maxLen) :
    Calls Tryz.prog 139 #[cmdV6 k v val wd ft id] w fun e w' => e = .returned (.bool (cmdB k ss val)) ∧ Below w.heap.size w w' := by
  unfold cmdV6
  have hB : Below w.heap.size w (w.alloc (.cells #[.int .i64 k, v, .string val, .string wd, .bool ft, .int .i64 id] 36)) := (Below.refl _ _).alloc (Nat.le_refl _) _
  have h' := h.later hB
  have HBB : Hid (Below w.heap.size w (w.alloc (.cells #[.int .i64 k, v, .string val, .string wd, .bool ft, .int .i64 id] 36))) := hB
  clear hB h
  obtain ⟨hf, sm, hsz⟩ := h'
  have HSZ : Hid (∀ s ∈ ss, s.size ≤ maxLen) := hsz
  have HBad : Hid (∀ i s, ss[i]? = some s → keyB s = false → cmdB k ss val = false) := fun i s a b => cmdB_bad a b
  have HGood : Hid ((ss.take ss.length).all keyB = true → cmdB k ss val = if k = 1 then withinB 1 ss.length 4 && val.toList.isEmpty else if k = 2 then withinB 1 ss.length 1 && decide ((val.size : Int) ≤ 40) else if k = 3 then withinB 1 ss.length 1 && val.toList.isEmpty else false) := by
    intro hh
    unfold cmdB
    rw [keysB_len hh, keysB_len hh]
  clear hsz
  obtain ⟨vv, n, hvv, hn⟩ : ∃ (a : Option Addr) (c : Nat), v = .slice a ss.length c ∧ ∀ (i : Nat) (s : ByteArray), ss[i]? = some s → ∃ b o, a = some ⟨b, o, none⟩ ∧ (w.alloc (.cells #[.int .i64 k, v, .string val, .string wd, .bool ft, .int .i64 id] 36)).cell? ⟨b, o + i, none⟩ = some (.string s) := by
    rcases hf with ⟨b, o, c, rfl, _, hc⟩ | ⟨a, rfl, rfl⟩
    · exact ⟨_, c, rfl, fun i s hs => ⟨b, o, rfl, hc i s hs⟩⟩
    · exact ⟨a, 0, rfl, fun i s hs => by simp at hs⟩
  subst hvv
  have HC : Hid (∀ (i : Nat) (s : ByteArray), ss[i]? = some s → ∃ b o, vv = some ⟨b, o, none⟩ ∧ (w.alloc (.cells #[.int .i64 k, .slice vv ss.length n, .string val, .string wd, .bool ft, .int .i64 id] 36)).cell? ⟨b, o + i, none⟩ = some (.string s)) := hn
  clear hn hf
  generalize hL : ss.length = L at *
  have HL : Hid (ss.length = L) := hL
  clear hL
  generalize hCB : cmdB k ss val = CB at *
  clear hCB
  go_enter Tryz.func139, Tryz.ntmps139
  go_wp2
  go_loop [3] (fun i => ∃ j : Nat, j ≤ L ∧ i = .int .i64 j ∧ Hid ((ss.take j).all keyB = true)) (fun i => L - (intOf i).toNat)
  case atStart => exact ⟨0, Nat.zero_le _, rfl, (by show _ = _; simp)⟩
  case round =>
    obtain ⟨j, hj, rfl, hall⟩ := hrel
    by_cases hlt : j < L
    · obtain ⟨s, hs⟩ : ∃ s, ss[j]? = some s := ⟨ss[j]'(by rw [HL.out]; exact hlt), List.getElem?_eq_getElem _⟩
      obtain ⟨b, o, rfl, hcell⟩ := HC.out j s hs
      have hm := HSZ.out s (List.mem_of_getElem? hs)
      have HS : Hid (ss[j]? = some s) := hs
      clear hs
      cases hb : keyB s with
      | true =>
        go_wp2_with (go_at_call 137; refine (refkey_any _ _ hm).mono ?_; rintro e w' ⟨rfl, rfl⟩)
        go_round
        case rel =>
          refine ⟨j + 1, by omega, by go_num, ?_⟩
          show _ = _
          rw [List.take_add_one, HS.out, List.all_append, hall.out]; simp [hb]
        case measure => simp [intOf]; omega
      | false =>
        have HH : Hid (CB = false) := HBad.out j s HS.out hb
        go_wp2_with (go_at_call 137; refine (refkey_any _ _ hm).mono ?_; rintro e w' ⟨rfl, hw⟩; subst hw)
        go_ret
        exact ⟨ret_bool HH.out.symm, HBB.out⟩
    · have hj2 : j = L := by omega
      subst hj2
      have HH := HGood.out hall.out
      have hv' := hv
      unfold maxLen at hv
      by_cases k1 : k = 1
      · subst k1
        have H2 : Hid (CB = (withinB 1 j 4 && val.toList.isEmpty)) := by show _ = _; rw [HH]; simp
        clear HH
        by_cases g1 : 1 ≤ j
        · by_cases g2 : j ≤ 4
          · go_wp2
            go_ret
            exact ⟨ret_bool (by rw [H2.out, withinB_t (by omega) (by omega)]; simp), HBB.out⟩
          · have g2' : ¬ (j : Int) ≤ 4 := by omega
            go_wp2
            go_ret
            exact ⟨ret_bool (by rw [H2.out, withinB_f (by omega)]; simp), HBB.out⟩
        · have g1' : ¬ (1 : Int) ≤ j := by omega
          go_wp2
          go_ret
          exact ⟨ret_bool (by rw [H2.out, withinB_f (by omega)]; simp), HBB.out⟩
      · by_cases k2 : k = 2
        · subst k2
          have H2 : Hid (CB = (withinB 1 j 1 && decide ((val.size : Int) ≤ 40))) := by show _ = _; rw [HH]; simp
          clear HH
          by_cases g1 : j = 1
          · subst g1
            go_wp2
            go_ret
            exact ⟨ret_bool (by rw [H2.out, withinB_t (by omega) (by omega)]; simp), HBB.out⟩
          · have g1' : ((j : Int) == 1) = false := by rw [beq_eq_false_iff_ne]; omega
            go_wp2
            go_ret
            exact ⟨ret_bool (by rw [H2.out, withinB_f (by omega)]; simp), HBB.out⟩
        · by_cases k3 : k = 3
          · subst k3
            have H2 : Hid (CB = (withinB 1 j 1 && val.toList.isEmpty)) := by show _ = _; rw [HH]; simp
            clear HH
            by_cases g1 : j = 1
            · subst g1
              go_wp2
              go_ret
              exact ⟨ret_bool (by rw [H2.out, withinB_t (by omega) (by omega)]; simp), HBB.out⟩
            · have g1' : ((j : Int) == 1) = false := by rw [beq_eq_false_iff_ne]; omega
              go_wp2
              go_ret
              exact ⟨ret_bool (by rw [H2.out, withinB_f (by omega)]; simp), HBB.out⟩
          · have H2 : Hid (CB = false) := by show _ = _; rw [HH]; simp [k1, k2, k3]
            clear HH
            have q1 : (k == 1) = false := by simpa using k1
            have q2 : (k == 2) = false := by simpa using k2
            have q3 : (k == 3) = false := by simpa using k3
            go_wp2
            go_ret
            exact ⟨ret_bool H2.out.symm, HBB.out⟩
end Go.Proofs.YtlonjggfnleolaaGreatDoor
