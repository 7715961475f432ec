/-
  The program's Inflate.
-/
import Derived.Test.YthdmjmnkhlpnnaaDoorWhy
import Derived.Laws.IdiomStrings
import Derived.Laws.BytesArg
namespace Go.Proofs.YthdmjmnkhlpnnaaDoor
open Go.RowKit

set_option maxHeartbeats 800000 in
theorem unew_any (s : ByteArray) (m : Int) (w : World) :
    Calls Tryd.prog 12 #[.string s, .int .i64 m] w fun e w' => e = .returned (.pointer (some ⟨w.heap.size, 0, none⟩)) ∧ w' = w.alloc (.cells #[.string s, .int .i64 0, .int .i64 0, .slice none 0 0, .int .i64 (max m 0), .pointer none] 63) := by
  by_cases h : 0 ≤ m
  · rw [show max m 0 = m by omega]
    go_enter Tryd.func12, Tryd.ntmps12
    go_wp2
    all_goals go_ret
    all_goals first | exact ⟨rfl, rfl⟩ | (exfalso; omega)
  · rw [show max m 0 = 0 by omega]
    go_enter Tryd.func12, Tryd.ntmps12
    go_wp2
    all_goals go_ret
    all_goals first | exact ⟨rfl, rfl⟩ | (exfalso; omega)

set_option maxHeartbeats 800000 in
theorem used_any (w : World) (B : Nat) (s : ByteArray) (p : Nat) (tv : Value) (t : List UInt8) (M : Int) (fx : Option Addr) (h : Rd w B s p tv t M fx) :
    Calls Tryd.prog 16 #[.pointer (some ⟨B, 0, none⟩)] w fun e w' => e = .returned (.int .i64 ((p + 7) / 8 : Nat)) ∧ w = w' := by
  obtain ⟨-, c1, c2, -, -, -⟩ := h.cell
  have hs := h.sml
  have hfit := h.fit
  obtain ⟨a, ha⟩ : ∃ a, a = p / 8 := ⟨_, rfl⟩
  obtain ⟨b, hb⟩ : ∃ b, b = p % 8 := ⟨_, rfl⟩
  obtain ⟨u, hu⟩ : ∃ u, u = (p + 7) / 8 := ⟨_, rfl⟩
  rw [← ha] at c1
  rw [← hb] at c2
  rw [← hu]
  by_cases h0 : 0 < b
  · have hua : u = a + 1 := by omega
    have has : a ≤ s.size := by omega
    clear ha hb hu hfit
    subst hua
    go_enter Tryd.func16, Tryd.ntmps16
    go_wp2
    go_ret
    exact ⟨ret_int (by omega), rfl⟩
  · have hua : u = a := by omega
    clear ha hb hu hfit
    subst hua
    go_enter Tryd.func16, Tryd.ntmps16
    go_wp2
    go_ret
    exact ⟨rfl, rfl⟩

theorem text_run (w : World) (B : Nat) (s : ByteArray) (p : Nat) (tv : Value) (t : List UInt8) (M : Int) (fx : Option Addr) (h : Rd w B s p tv t M fx) : (convert 33 9 tv).run Tryd.prog w = .ok (.string ⟨t.toArray⟩) w := by
  by_cases h0 : 0 < t.length
  · obtain ⟨g, c, rfl, -⟩ := h.byte 0 h0
    refine run_convert_bytes_back w 33 9 5 ⟨g, 0, none⟩ c t Tryd.underlying33 Tryd.underlying5 Tryd.underlying9 (fun j hj => ?_)
    obtain ⟨g', c', he, hc⟩ := h.byte j hj
    injection he with e1 _ _
    injection e1 with e1
    injection e1 with e1 _ _
    subst e1
    have e2 : (⟨g, 0, none⟩ : Addr).add j = ⟨g, j, none⟩ := by unfold Addr.add; split <;> simp_all
    rw [e2, hc]
    simp [List.getD_eq_getElem?_getD, List.getElem?_eq_getElem hj]
  · have ht : t = [] := List.eq_nil_of_length_eq_zero (by omega)
    subst ht
    obtain ⟨_, ⟨rfl, _⟩ | ⟨g, cap, cur, rfl, hg, hh, _⟩⟩ := h.own
    · exact run_convert_bytes_nil w 33 5 Tryd.underlying33 Tryd.underlying5 0 0 9 Tryd.underlying9
    · exact run_convert_bytes_back w 33 9 5 ⟨g, 0, none⟩ cap [] Tryd.underlying33 Tryd.underlying5 Tryd.underlying9 (fun j hj => by simp at hj)

set_option maxHeartbeats 800000 in
theorem text_any (w : World) (B : Nat) (s : ByteArray) (p : Nat) (tv : Value) (t : List UInt8) (M : Int) (fx : Option Addr) (h : Rd w B s p tv t M fx) :
    Calls Tryd.prog 15 #[.pointer (some ⟨B, 0, none⟩)] w fun e w' => e = .returned (.string ⟨t.toArray⟩) ∧ w = w' := by
  obtain ⟨-, -, -, c3, -, -⟩ := h.cell
  have hcv := text_run w B s p tv t M fx h
  obtain ⟨ao, c, rfl⟩ := h.shape
  clear h
  go_enter Tryd.func15, Tryd.ntmps15
  go_wp2
  go_ret
  exact ⟨rfl, rfl⟩

/-- what Inflate answers -/
def ou (s : ByteArray) (M : Int) : ByteArray × Nat × Nat :=
  match inF s M with
  | .ok p t => (⟨t.toArray⟩, (p + 7) / 8, 0)
  | .no e t => if e = 1 then (⟨t.toArray⟩, 0, 1) else (⟨#[]⟩, 0, e)
theorem rd_new (w : World) (s : ByteArray) (m : Int) (hs : s.size ≤ 1048576) : Rd (w.alloc (.cells #[.string s, .int .i64 0, .int .i64 0, .slice none 0 0, .int .i64 (max m 0), .pointer none] 63)) w.heap.size s 0 (.slice none 0 0) [] (max m 0) none :=
  ⟨heap_alloc_new w _, ⟨rfl, Or.inl ⟨rfl, rfl⟩⟩, hs, by omega, by simp; omega, by simp⟩
theorem cpy_no {M : Int} {b p n e : Nat} {t t' : List UInt8} (h : cpy M b p n t = .no e t') : e ≠ 0 := by
  induction n generalizing t with
  | zero => simp [cpy] at h
  | succ n ih =>
    rw [cpy] at h
    split at h
    · exact ih h
    · injection h with h; omega
theorem agF_nz {M : Int} {zb : List Int} {s : ByteArray} {n p e : Nat} {t t' : List UInt8} (h : agF M zb s n p t = .no e t') : e ≠ 0 := by
  unfold agF at h
  split at h
  · rename_i e' hs
    have := symF_no _ _ _ _ _ _ _ hs
    injection h with h; omega
  · split at h
    · injection h with h; omega
    · split at h
      · split at h
        · injection h with h; omega
        · exact cpy_no h
      · injection h with h; omega
theorem ltF_nz {M : Int} {za zb : List Int} {s : ByteArray} {f p e : Nat} {t t' : List UInt8} (h : ltF M za zb s f p t = .no e t') : e ≠ 0 := by
  induction f generalizing p t with
  | zero => simp [ltF] at h
  | succ f ih =>
    rw [ltF] at h
    split at h
    · rename_i e' hs
      have := symF_no _ _ _ _ _ _ _ hs
      injection h with h; omega
    · split at h
      · split at h
        · exact ih h
        · injection h with h; omega
      · split at h
        · simp at h
        · split at h
          · split at h
            · split at h
              · exact ih h
              · rename_i e' t'' ha
                have := agF_nz ha
                injection h with h; omega
            · injection h with h; omega
          · injection h with h; omega
theorem rawF_nz {M : Int} {s : ByteArray} {n a e : Nat} {t t' : List UInt8} (h : rawF M s n a t = .no e t') : e ≠ 0 := by
  induction n generalizing a t with
  | zero => simp [rawF] at h
  | succ n ih =>
    rw [rawF] at h
    split at h
    · split at h
      · exact ih h
      · injection h with h; omega
    · injection h with h; omega
theorem owF_nz {s : ByteArray} {p e : Nat} (h : owF s p = .no e) : e ≠ 0 := by
  unfold owF at h
  split at h
  · split at h
    · injection h with h; omega
    · split at h
      · split at h
        · split at h
          · rename_i e' hl
            have := lnF_no hl
            injection h with h; omega
          · split at h
            · simp at h
            · injection h with h; omega
        · injection h with h; omega
      · injection h with h; omega
  · injection h with h; omega
theorem bkF_nz {M : Int} {s : ByteArray} {k p e : Nat} {t t' : List UInt8} (h : bkF M s k p t = .no e t') : e ≠ 0 := by
  unfold bkF at h
  split at h
  · unfold asF at h
    split at h
    · split at h
      · exact rawF_nz h
      · injection h with h; omega
    · injection h with h; omega
  · split at h
    · exact ltF_nz h
    · split at h
      · split at h
        · rename_i e' ho
          have := owF_nz ho
          injection h with h; omega
        · exact ltF_nz h
      · injection h with h; omega
theorem blF_nz {M : Int} {s : ByteArray} {f p e : Nat} {t t' : List UInt8} (h : blF M s f p t = .no e t') : e ≠ 0 := by
  induction f generalizing p t with
  | zero => simp [blF] at h
  | succ f ih =>
    rw [blF] at h
    split at h
    · split at h
      · rename_i e' t'' hb
        have := bkF_nz hb
        injection h with h; omega
      · split at h
        · simp at h
        · exact ih h
    · injection h with h; omega
theorem inF_no {s : ByteArray} {M : Int} {e : Nat} {t : List UInt8} (h : inF s M = .no e t) : e ≠ 0 := blF_nz h

set_option maxRecDepth 20000 in
set_option maxHeartbeats 800000 in
theorem inflate_any (w : World) (s : ByteArray) (m : Int) (hs : s.size ≤ 1048576) (hg : Glo w) (hw : 1 < w.heap.size) :
    Calls Tryd.prog 6 #[.string s, .int .i64 m] w fun e w' => e = .returned (.tuple #[.string (ou s (max m 0)).1, .int .i64 (ou s (max m 0)).2.1, .int .i64 (ou s (max m 0)).2.2]) ∧ Below w.heap.size w w' := by
  have hmf : ∀ (fn : Fn) (first cap : Array Value) (w : World), (Instr.makeFunc fn first cap).run Tryd.prog w = .ok (.func fn first cap) w := fun _ _ _ _ => rfl
  have hb0 : Below w.heap.size w (w.alloc (.cells #[.string s, .int .i64 0, .int .i64 0, .slice none 0 0, .int .i64 (max m 0), .pointer none] 63)) := (Below.refl _ _).alloc (Nat.le_refl _) _
  have HW := hid (why_any _ w.heap.size s (max m 0) _ (rd_new w s m hs) (hg.below hb0 hw) hw)
  have HB0 := hid hb0
  clear hb0 hg
  cases hr : inF s (max m 0) with
  | ok p t =>
    rw [hr] at HW
    rw [show ou s (max m 0) = (⟨t.toArray⟩, (p + 7) / 8, 0) by unfold ou; rw [hr]]
    clear hr
    go_enter Tryd.func6, Tryd.ntmps6
    go_wp2_with (first | (go_at_call 12; refine (unew_any _ _ _).mono ?_; rintro e w1 ⟨rfl, rfl⟩) | (go_at_call 13; refine HW.out.mono ?_; rintro e w2 ⟨rfl, ⟨tv, fx, hr2⟩, hk2⟩; have HR2 := hid hr2; clear hr2) | (go_at_call 15; refine (text_any _ _ _ _ _ _ _ _ HR2.out).mono ?_; rintro e w3 ⟨rfl, rfl⟩) | (go_at_call 16; refine (used_any _ _ _ _ _ _ _ _ HR2.out).mono ?_; rintro e w3 ⟨rfl, rfl⟩))
    go_ret3
    exact ⟨rfl, HB0.out.trans hk2.below⟩
  | no e t =>
    rw [hr] at HW
    have he0 := inF_no hr
    by_cases he1 : e = 1
    · subst he1
      rw [show ou s (max m 0) = (⟨t.toArray⟩, 0, 1) by unfold ou; rw [hr]; rfl]
      clear hr
      go_enter Tryd.func6, Tryd.ntmps6
      go_wp2_with (first | (go_at_call 12; refine (unew_any _ _ _).mono ?_; rintro e w1 ⟨rfl, rfl⟩) | (go_at_call 13; refine HW.out.mono ?_; rintro e w2 ⟨rfl, ⟨p2, tv, fx, hr2⟩, hk2⟩; have HR2 := hid hr2; clear hr2) | (go_at_call 15; refine (text_any _ _ _ _ _ _ _ _ HR2.out).mono ?_; rintro e w3 ⟨rfl, rfl⟩))
      go_ret3
      exact ⟨rfl, HB0.out.trans hk2.below⟩
    · rw [show ou s (max m 0) = (⟨#[]⟩, 0, e) by unfold ou; rw [hr]; simp only; rw [if_neg he1]]
      have b0 : ((e : Int) == 0) = false := beq_eq_false_iff_ne.2 (by omega)
      have b1 : ((e : Int) == 1) = false := beq_eq_false_iff_ne.2 (by omega)
      clear hr
      go_enter Tryd.func6, Tryd.ntmps6
      go_wp2_with (first | (go_at_call 12; refine (unew_any _ _ _).mono ?_; rintro e w1 ⟨rfl, rfl⟩) | (go_at_call 13; refine HW.out.mono ?_; rintro e w2 ⟨rfl, ⟨p2, tv, fx, hr2⟩, hk2⟩))
      go_ret3
      exact ⟨rfl, HB0.out.trans hk2.below⟩
end Go.Proofs.YthdmjmnkhlpnnaaDoor
