/-
  The order in which the lengths come, and the code of lengths: the program's Ordered and codeOfLengths.
-/
import Derived.Test.YthdmjmnkhlpnnaaDoorMay
namespace Go.Proofs.YthdmjmnkhlpnnaaDoor
open Go.RowKit

/-- the order lies in its variable -/
def Glo (w : World) : Prop := ∀ k, k < 19 → w.cell? ⟨1, k, none⟩ = some (.int .i64 (ord.getD k 0))
theorem Glo.below {B : Nat} {w w' : World} (h : Glo w) (hb : Below B w w') (hB : 1 < B) : Glo w' := fun k hk => (hb.cell (p := ⟨1, k, none⟩) hB).trans (h k hk)
theorem Glo.kp {X : TypeId} {B : Nat} {w w' : World} (h : Glo w) (hk : Kp X B w w') (hB : 1 < B) : Glo w' := h.below hk.below hB
theorem ord_lt (k : Nat) (h : k < 19) : ord.getD k 0 < 19 := by
  have : ∀ k, k < 19 → ord.getD k 0 < 19 := by decide
  exact this k h

set_option maxHeartbeats 800000 in
theorem ordered_any (w : World) (k : Nat) (z : Int) (hk : k < 19) (hc : w.cell? ⟨1, k, none⟩ = some (.int .i64 z)) :
    Calls Tryd.prog 107 #[.int .i64 k] w fun e w' => e = .returned (.int .i64 z) ∧ w = w' := by
  go_enter Tryd.func107, Tryd.ntmps107
  go_wp2
  go_ret
  exact ⟨rfl, rfl⟩

theorem clF_length (s : ByteArray) (p k : Nat) : (clF s p k).length = 19 := by
  induction k with
  | zero => rfl
  | succ k ih => rw [clF, List.length_set, ih]
theorem any_set (l : List Int) (i : Nat) (z : Int) (h : l.any nl = false) (hz : nl z = false) : (l.set i z).any nl = false := by
  rw [List.any_eq_false] at h ⊢
  intro x hx
  rcases List.mem_or_eq_of_mem_set hx with h1 | rfl
  · exact h x h1
  · simp [hz]
theorem clF_ok (s : ByteArray) (p k : Nat) : (clF s p k).any nl = false := by
  induction k with
  | zero => rfl
  | succ k ih =>
    rw [clF]
    refine any_set _ _ _ ih ?_
    have := val_lt s (p + 3 * k) 3
    unfold nl
    simp
    omega

/-- what the reading of the code of lengths comes to -/
def Col (B : Nat) (s : ByteArray) (p : Nat) (tv : Value) (t : List UInt8) (M : Int) (fx : Option Addr) (n : Nat) (w : World) (e : Ending) (w' : World) : Prop :=
  if p + 3 * n ≤ 8 * s.size then
    if wt (clF s p n) = 32768 then ∃ b, e = .returned (.pointer (some ⟨b, 0, none⟩)) ∧ Cod w' b (clF s p n) ∧ Rd w' B s (p + 3 * n) tv t M fx ∧ Kp 63 B w w'
    else Gave B s tv t M fx 3 w e w'
  else Gave B s tv t M fx 1 w e w'

theorem start_col (w : World) (B N : Nat) (hB : B ≤ w.heap.size) : Row (w.alloc (.cells (nums (List.replicate N 0)) 3)) w.heap.size (List.replicate N 0) ∧ Kp 63 B w (w.alloc (.cells (nums (List.replicate N 0)) 3)) :=
  ⟨heap_alloc_new w _, (Kp.refl _ _ _).alloc hB _⟩
/-- a store into a row of numbers that is new -/
theorem Rd.setNew {w : World} {B : Nat} {s : ByteArray} {p : Nat} {tv : Value} {t : List UInt8} {M : Int} {fx : Option Addr} (h : Rd w B s p tv t M fx) {g : Nat} {l : List Int} (hr : Row w g l) (i : Nat) (u : Value) : Rd (w.setCell ⟨g, i, none⟩ u) B s p tv t M fx := by
  have hne : B ≠ g := fun e => by
    have h1 := h.blk
    rw [e, show w.heap[g]? = _ from hr] at h1
    injection h1 with h1; injection h1 with _ h1 _; exact absurd h1 (by decide)
  refine ⟨?_, ?_, h.sml, h.fit, h.len, h.rom⟩
  · rw [Below.heap_setCell _ _ _ _ (by exact hne)]; exact h.blk
  · obtain ⟨h1, h2⟩ := h.own
    refine ⟨h1, ?_⟩
    rcases h2 with h2 | ⟨gg, cap, cur, hv, hg, hh, r⟩
    · exact Or.inl h2
    · refine Or.inr ⟨gg, cap, cur, hv, hg, ?_, r⟩
      rw [Below.heap_setCell _ _ _ _ (fun e => by
        have e' : gg = g := e
        rw [e', show w.heap[g]? = _ from hr] at hh
        injection hh with hh; injection hh with _ hh _; exact absurd hh (by decide))]
      exact hh

set_option maxRecDepth 20000 in
set_option maxHeartbeats 1600000 in
theorem col_any (w : World) (B : Nat) (s : ByteArray) (p : Nat) (tv : Value) (t : List UInt8) (M : Int) (fx : Option Addr) (n : Nat) (h : Rd w B s p tv t M fx) (hg : Glo w) (hB : 1 < B) (hn : n ≤ 19) :
    Calls Tryd.prog 79 #[.pointer (some ⟨B, 0, none⟩), .int .i64 n] w fun e w' => Col B s p tv t M fx n w e w' := by
  have HG := hid hg
  have hlt := h.lt
  have hfi := h.fit
  have HR0 := hid (h.alloc (.cells (nums (List.replicate 19 0)) 3))
  have HS0 := hid (start_col w B 19 (Nat.le_of_lt hlt))
  clear h hg
  obtain ⟨i0, hi, hz0, hz1, hz2⟩ := info_parts info3
  have hmk : ∀ u : World, (Instr.makeSlice 45 (.int .i64 19) (.int .i64 19)).run Tryd.prog u =
      .ok (.slice (some ⟨u.heap.size, 0, none⟩) 19 19) (u.alloc (.cells (nums (List.replicate 19 0)) 3)) := fun u => by
    have h := run_make (P := Tryd.prog) u 45 3 i0 (.int .i64 0) Tryd.underlying45 hi hz0 .i64 .i64 19 19 (by omega) (Int.le_refl _) (by rw [hz2]; omega) (by omega)
    rw [hz1, Nat.mul_one, show (Value.int IntKind.i64 0).cells = #[Value.int .i64 0] from rfl, show ((19 : Int)).toNat = 19 by omega, nums_made] at h
    exact h
  clear hi hz0 hz1 hz2
  go_enter Tryd.func79, Tryd.ntmps79
  go_wp2
  clear hmk
  go_loopw [10] (fun i wr => ∃ k : Nat, k ≤ n ∧ p + 3 * k ≤ 8 * s.size ∧ i = .int .i64 k ∧ Hid (Row wr w.heap.size (clF s p k)) ∧ Hid (Rd wr B s (p + 3 * k) tv t M fx) ∧ Kp 63 B w wr) (fun i _ => n - (intOf i).toNat)
  case atStart => exact ⟨0, by omega, by omega, rfl, HS0.out.1, HR0, HS0.out.2⟩
  case round =>
    clear HR0 HS0
    obtain ⟨k, hk, hpk, rfl, hRow, hR, hK⟩ := hrel
    by_cases hlk : k < n
    · obtain ⟨o, ho⟩ : ∃ o, o = ord.getD k 0 := ⟨_, rfl⟩
      have ho19 : o < 19 := by rw [ho]; exact ord_lt k (by omega)
      have hgc : wr.drew.cell? ⟨1, k, none⟩ = some (.int .i64 (o : Int)) := by rw [ho]; exact (HG.out.kp hK hB) k (by omega)
      have HO := hid ho
      clear ho
      by_cases hb : p + 3 * k + 3 ≤ 8 * s.size
      · obtain ⟨x, hx⟩ : ∃ x, x = val s (p + 3 * k) 3 := ⟨_, rfl⟩
        have HX := hid hx
        clear hx
        go_wp2
        go_region_with (first | (go_at_call 107; refine (ordered_any _ k o (by omega) hgc).mono ?_; rintro e w1 ⟨rfl, rfl⟩) | (go_at_call 33; refine (number_ok _ _ _ _ _ _ _ _ (by exact hR.out.drew) 3 (by omega) hb).mono ?_; rintro e w2 ⟨rfl, hr2, hk2⟩; rw [← HX.out]; have hrow2 : Row w2 w.heap.size (clF s p k) := hk2.cells (w := wr.drew) hRow.out (by decide) (by decide); have cc : w2.cell? ⟨w.heap.size, o, none⟩ = some (.int .i64 ((clF s p k).getD o 0)) := hrow2.cell (by rw [clF_length]; exact ho19); have cf : w2.frozen? ⟨w.heap.size, o, none⟩ = false := hrow2.free _; have HRow2 := hid hrow2; have HR2 := hid hr2; clear hr2 hrow2))
        all_goals
          go_wp2
          refine ⟨⟨k + 1, by omega, by omega, by go_num, ?_, ?_, (hK.drew.trans hk2).setNew (Nat.le_of_lt hlt) (Nat.le_refl _) _⟩, by simp [intOf]; omega⟩
          · show Row _ _ _
            rw [clF, ← HO.out, ← HX.out]
            exact HRow2.out.set _ _
          · have := HR2.out.setNew HRow2.out o (.int .i64 x)
            rw [show p + 3 * (k + 1) = p + 3 * k + 3 by omega]
            exact this
      · have HC : Hid (∀ e w', Gave B s tv t M fx 1 w e w' → Col B s p tv t M fx n w e w') := fun e w' h => by unfold Col; rw [if_neg (by omega)]; exact h
        go_wp2
        go_region_with (first | (go_at_call 107; refine (ordered_any _ k o (by omega) hgc).mono ?_; rintro e w1 ⟨rfl, rfl⟩) | (go_at_call 33; refine (number_no _ _ _ _ _ _ _ _ (by exact hR.out.drew) 3 (by omega) hb).mono ?_; rintro e w2 ⟨rfl, hr2, hk2⟩; have HD := hid (HC.out _ w2 ⟨rfl, hr2, hK.drew.trans hk2⟩); go_wp2; refine dead (P := Tryd.prog) (by exact ⟨rfl, HD.out⟩) w ?_))
        all_goals trivial
    · obtain rfl : k = n := by omega
      have HNEW := new_any (some ⟨w.heap.size, 0, none⟩) 19 (clF s p k) wr hRow.out.seg (by rw [clF_length]; omega) (clF_ok s p k)
      rw [clF_length] at HNEW
      have HNW := hid HNEW
      clear HNEW
      by_cases hw : wt (clF s p k) = 32768
      · have HD : Hid (decide (wt (clF s p k) = 32768) = true) := by show _ = _; simp [hw]
        have HC : Hid (∀ e w', (∃ b, e = .returned (.pointer (some ⟨b, 0, none⟩)) ∧ Cod w' b (clF s p k) ∧ Rd w' B s (p + 3 * k) tv t M fx ∧ Kp 63 B w w') → Col B s p tv t M fx k w e w') := fun e w' h => by unfold Col; rw [if_pos hpk, if_pos hw]; exact h
        clear hw
        go_wp2_with (first | (go_at_call 75; refine HNW.out.mono ?_; rintro e w3 ⟨b3, rfl, hb3, hcod, hbe⟩; have HCod := hid hcod; clear hcod) | (go_at_call 108; refine (isComplete_any _ _ _ HCod.out).mono ?_; rintro e w4 ⟨rfl, rfl⟩; rw [HD.out]))
        go_ret
        exact HC.out _ _ ⟨b3, rfl, HCod.out, hR.out.below hbe, hK.trans (Kp.ofBelow hbe (Nat.le_of_lt hR.out.lt))⟩
      · have HD : Hid (decide (wt (clF s p k) = 32768) = false) := by show _ = _; simp [hw]
        have HC : Hid (∀ e w', Gave B s tv t M fx 3 w e w' → Col B s p tv t M fx k w e w') := fun e w' h => by unfold Col; rw [if_pos hpk, if_neg hw]; exact h
        clear hw
        go_wp2_with (first | (go_at_call 75; refine HNW.out.mono ?_; rintro e w3 ⟨b3, rfl, hb3, hcod, hbe⟩; have HCod := hid hcod; clear hcod) | (go_at_call 108; refine (isComplete_any _ _ _ HCod.out).mono ?_; rintro e w4 ⟨rfl, rfl⟩; rw [HD.out]) | (go_at_call 54; refine (give_any _ _).mono ?_; rintro e w' ⟨rfl, rfl⟩))
        exact ⟨rfl, HC.out _ _ ⟨rfl, ⟨_, hR.out.below hbe⟩, hK.trans (Kp.ofBelow hbe (Nat.le_of_lt hR.out.lt))⟩⟩
end Go.Proofs.YthdmjmnkhlpnnaaDoor
