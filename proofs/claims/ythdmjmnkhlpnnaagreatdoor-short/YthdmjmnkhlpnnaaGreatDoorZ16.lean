/-
  Why the reader gave up: the program's whyGivenUp and its deferred function.
-/
import Derived.Test.YthdmjmnkhlpnnaaGreatDoorZ15
import Derived.Defers
import Derived.Recover
import Derived.Laws.IdiomStrings
import Derived.Laws.BytesArg
import Derived.Test.YthdmjmnkhlpnnaaGreatDoorZ13
import Derived.Test.YthdmjmnkhlpnnaaGreatDoorZ03
namespace Go.Proofs.YthdmjmnkhlpnnaaGreatDoor
open Go.RowKit

theorem catch_idle (p : Addr) (w : World) :
    CallsD Tryz.prog 61 #[.pointer (some p)] .returning w fun e u' w' => e = .returned (.tuple #[]) ∧ u' = .returning ∧ w = w' := by
  refine callsD_of_wpS Tryz.func61 rfl fun c₀ cs hu => ?_
  apply wpS_seq
  apply wpS_region
  simp [wpOpsS, go_sem, recoverD, hu, Tryz.ntmps61, Exit.thenS]
  rw [show #[Value.pointer (some p)] ++ (Array.replicate 11 undef).setIfInBounds 3 Value.nilIface = #[.pointer (some p), undef, undef, undef, .nilIface, undef, undef, undef, undef, undef, undef, undef] from rfl]
  refine wpS_of_wp ?_
  go_wp2
  cases c₀
  simp_all [bodyPostS, results, Tryz.results61]

set_option maxRecDepth 20000 in
set_option maxHeartbeats 800000 in
theorem catch_gave (b : Nat) (x e : Int) (older : List PanicEntry) (w : World) (hc : w.cell? ⟨b, 0, none⟩ = some (.int .i64 x)) (hz : w.frozen? ⟨b, 0, none⟩ = false) (hp : b < w.heap.size) :
    CallsD Tryz.prog 61 #[.pointer (some ⟨b, 0, none⟩)] (.panicking ({ v := .iface 103 (.agg #[.int .i64 e]), recovered := false } :: older)) w fun r u' w' =>
      r = .returned (.tuple #[]) ∧ u' = .panicking ({ v := .iface 103 (.agg #[.int .i64 e]), recovered := true } :: older) ∧ w' = (w.setCell ⟨b, 0, none⟩ (.int .i64 e)).alloc (.cells #[.int .i64 e] 103) := by
  have hta : ∀ w : World, (Instr.typeAssert (.iface 103 (.agg #[.int .i64 e])) 20 103 true).run Tryz.prog w = .ok (.tuple #[.agg #[.int .i64 e], .bool true]) w := fun _ => by kernel_rfl
  refine callsD_of_wpS Tryz.func61 rfl fun c₀ cs hu => ?_
  apply wpS_seq
  apply wpS_region
  simp [wpOpsS, go_sem, recoverD, hu, Tryz.ntmps61, Exit.thenS]
  rw [show #[Value.pointer (some ⟨b, 0, none⟩)] ++ (Array.replicate 11 undef).setIfInBounds 3 (.iface 103 (.agg #[.int .i64 e])) = #[.pointer (some ⟨b, 0, none⟩), undef, undef, undef, .iface 103 (.agg #[.int .i64 e]), undef, undef, undef, undef, undef, undef, undef] from rfl]
  refine wpS_of_wp ?_
  go_wp2
  cases c₀
  simp_all [bodyPostS, results, Tryz.results61]

/-- a store into a block that is neither the reader's nor of bytes -/
theorem Rd.setOther {w : World} {B : Nat} {s : ByteArray} {p : Nat} {tv : Value} {t : List UInt8} {M : Int} {fx : Option Addr} (h : Rd w B s p tv t M fx) {g T : Nat} {cs : Array Value} (hr : w.heap[g]? = some (.cells cs T (0, 0))) (h58 : T ≠ 101) (h5 : T ≠ 5) (i : Nat) (u : Value) : Rd (w.setCell ⟨g, i, none⟩ u) B s p tv t M fx := by
  have hne : B ≠ g := fun e => by
    have h1 := h.blk
    rw [e, hr] at h1
    injection h1 with h1; injection h1 with _ h1 _; exact h58 h1
  refine ⟨?_, ?_, h.sml, h.fit, h.len, h.rom⟩
  · rw [Below.heap_setCell _ _ _ _ (by exact hne)]; exact h.blk
  · obtain ⟨h1, h2⟩ := h.own
    refine ⟨h1, ?_⟩
    rcases h2 with h2 | ⟨gg, cap, cur, hv, hg, hh, r⟩
    · exact Or.inl h2
    · refine Or.inr ⟨gg, cap, cur, hv, hg, ?_, r⟩
      rw [Below.heap_setCell _ _ _ _ (fun e => by
        have e' : gg = g := e
        rw [e', hr] at hh
        injection hh with hh; injection hh with _ hh _; exact h5 hh)]
      exact hh

/-- what the asking why comes to: the error, and the reader as it stood -/
def Wyd (B : Nat) (s : ByteArray) (M : Int) (r : Tx) (w : World) (e : Ending) (w' : World) : Prop :=
  match r with
  | .ok p t => e = .returned (.int .i64 0) ∧ (∃ tv fx, Rd w' B s p tv t M fx) ∧ Kp 101 B w w'
  | .no k t => e = .returned (.int .i64 k) ∧ (∃ p' tv fx, Rd w' B s p' tv t M fx) ∧ Kp 101 B w w'

set_option maxRecDepth 20000 in
set_option maxHeartbeats 800000 in
theorem why_any (w : World) (B : Nat) (s : ByteArray) (M : Int) (tv : Value) (h : Rd w B s 0 tv [] M none) (hg : Glo w) (hB : 1 < B) :
    Calls Tryz.prog 34 #[.func (.func 35) #[.pointer (some ⟨B, 0, none⟩)] #[]] w fun e w' => Wyd B s M (inF s M) w e w' := by
  have hmf : ∀ (fn : Fn) (first cap : Array Value) (w : World), (Instr.makeFunc fn first cap).run Tryz.prog w = .ok (.func fn first cap) w := fun _ _ _ _ => rfl
  have hk0 : Kp 101 B w (w.alloc (.cells #[.int .i64 0] 22)) := (Kp.refl _ _ _).alloc (Nat.le_of_lt h.lt) _
  have HBL := hid (blocks_any (w.alloc (.cells #[.int .i64 0] 22)) B s M none tv (h.alloc _) (.inl rfl) (hg.kp hk0 hB) hB)
  have hcell : (w.alloc (.cells #[.int .i64 0] 22)).heap[w.heap.size]? = some (.cells #[.int .i64 0] 22 (0, 0)) := heap_alloc_new w _
  have HCE := hid hcell
  have HK0 := hid hk0
  have HLT := hid h.lt
  clear h hg hcell hk0
  obtain ⟨r, hr⟩ : ∃ r, r = inF s M := ⟨_, rfl⟩
  rw [← hr] at HBL ⊢
  clear hr
  cases r with
  | ok p t =>
    go_enter_defers Tryz.func34, Tryz.ntmps34
    go_wp2_with (go_at_call 35; refine HBL.out.mono ?_; rintro e w1 ⟨rfl, ⟨tv1, fx1, hr1, hf1⟩, hk1⟩; have hce := hk1.cells HCE.out (by decide) (by decide); have c0 : w1.cell? ⟨w.heap.size, 0, none⟩ = some (.int .i64 0) := (by rw [cell_of_row w1 w.heap.size 0 _ 22 (0, 0) hce]; rfl); have f0 : w1.frozen? ⟨w.heap.size, 0, none⟩ = false := (by simp [World.frozen?, hce]); have HE := hid hce; clear hce)
    have c1 : (w1.setCell ⟨w.heap.size, 0, none⟩ (.int .i64 0)).cell? ⟨w.heap.size, 0, none⟩ = some (.int .i64 0) := by rw [cell_of_row _ w.heap.size 0 _ 22 (0, 0) (blk_set HE.out 0 _)]; rfl
    have HX : Hid (Wyd B s M (.ok p t) w (.returned (.int .i64 0)) (w1.setCell ⟨w.heap.size, 0, none⟩ (.int .i64 0))) := ⟨rfl, ⟨tv1, fx1, hr1.setOther HE.out (by decide) (by decide) 0 _⟩, (HK0.out.trans hk1).setNew (Nat.le_of_lt HLT.out) (Nat.le_refl _) _⟩
    refine leaves_cons (f := 61) (args := #[.pointer (some ⟨w.heap.size, 0, none⟩)]) (by simp) (by simp [go_sem]) ?_
    refine (catch_idle ⟨w.heap.size, 0, none⟩ _).mono ?_
    rintro e u' w'' ⟨rfl, rfl, rfl⟩
    simp [Leaves, settle, results, Tryz.results34, go_sem, c1]
    exact HX.out
  | no k t =>
    go_enter_defers Tryz.func34, Tryz.ntmps34
    go_wp2_with (go_at_call 35; refine HBL.out.mono ?_; rintro e w1 ⟨rfl, ⟨p1, tv1, fx1, hr1⟩, hk1⟩; have hce := hk1.cells HCE.out (by decide) (by decide); have c0 : w1.cell? ⟨w.heap.size, 0, none⟩ = some (.int .i64 0) := (by rw [cell_of_row w1 w.heap.size 0 _ 22 (0, 0) hce]; rfl); have f0 : w1.frozen? ⟨w.heap.size, 0, none⟩ = false := (by simp [World.frozen?, hce]); have HE := hid hce; clear hce)
    have hsz : w.heap.size < w1.heap.size := (Array.getElem?_eq_some_iff.1 HE.out).1
    have hz2 : (w1.setCell ⟨w.heap.size, 0, none⟩ (.int .i64 k)).heap.size = w1.heap.size := by simp [World.setCell]
    have c1 : ((w1.setCell ⟨w.heap.size, 0, none⟩ (.int .i64 k)).alloc (.cells #[.int .i64 k] 103)).cell? ⟨w.heap.size, 0, none⟩ = some (.int .i64 k) := by
      rw [World.cell?_of_block (w := w1.setCell ⟨w.heap.size, 0, none⟩ (.int .i64 k)) (Below.heap_alloc _ _ _ (by rw [hz2]; exact hsz)), cell_of_row _ w.heap.size 0 _ 22 (0, 0) (blk_set HE.out 0 _)]; rfl
    have hkk : Kp 101 B w (w1.setCell ⟨w.heap.size, 0, none⟩ (.int .i64 k)) := (HK0.out.trans hk1).setNew (Nat.le_of_lt HLT.out) (Nat.le_refl _) _
    have HX : Hid (Wyd B s M (.no k t) w (.returned (.int .i64 k)) ((w1.setCell ⟨w.heap.size, 0, none⟩ (.int .i64 k)).alloc (.cells #[.int .i64 k] 103))) := ⟨rfl, ⟨p1, tv1, fx1, (hr1.setOther HE.out (by decide) (by decide) 0 _).alloc _⟩, hkk.alloc (by rw [hz2]; have := HLT.out; omega) _⟩
    refine leaves_cons (f := 61) (args := #[.pointer (some ⟨w.heap.size, 0, none⟩)]) (by simp) (by simp [go_sem]) ?_
    refine (catch_gave w.heap.size 0 k [] _ c0 f0 hsz).mono ?_
    rintro e u' w'' ⟨rfl, rfl, rfl⟩
    simp [Leaves, settle, results, Tryz.results34, go_sem, c1]
    exact HX.out
end Go.Proofs.YthdmjmnkhlpnnaaGreatDoor

/-
  The program's Inflate.
-/
namespace Go.Proofs.YthdmjmnkhlpnnaaGreatDoor
open Go.RowKit

set_option maxHeartbeats 800000 in
theorem unew_any (s : ByteArray) (m : Int) (w : World) :
    Calls Tryz.prog 33 #[.string s, .int .i64 m] w fun e w' => e = .returned (.pointer (some ⟨w.heap.size, 0, none⟩)) ∧ w' = w.alloc (.cells #[.string s, .int .i64 0, .int .i64 0, .slice none 0 0, .int .i64 (max m 0), .pointer none] 101) := by
  by_cases h : 0 ≤ m
  · rw [show max m 0 = m by omega]
    go_enter Tryz.func33, Tryz.ntmps33
    go_wp2
    all_goals go_ret
    all_goals first | exact ⟨rfl, rfl⟩ | (exfalso; omega)
  · rw [show max m 0 = 0 by omega]
    go_enter Tryz.func33, Tryz.ntmps33
    go_wp2
    all_goals go_ret
    all_goals first | exact ⟨rfl, rfl⟩ | (exfalso; omega)

set_option maxHeartbeats 800000 in
theorem used_any (w : World) (B : Nat) (s : ByteArray) (p : Nat) (tv : Value) (t : List UInt8) (M : Int) (fx : Option Addr) (h : Rd w B s p tv t M fx) :
    Calls Tryz.prog 37 #[.pointer (some ⟨B, 0, none⟩)] w fun e w' => e = .returned (.int .i64 ((p + 7) / 8 : Nat)) ∧ w = w' := by
  obtain ⟨-, c1, c2, -, -, -⟩ := h.cell
  have hs := h.sml
  have hfit := h.fit
  obtain ⟨a, ha⟩ : ∃ a, a = p / 8 := ⟨_, rfl⟩
  obtain ⟨b, hb⟩ : ∃ b, b = p % 8 := ⟨_, rfl⟩
  obtain ⟨u, hu⟩ : ∃ u, u = (p + 7) / 8 := ⟨_, rfl⟩
  rw [← ha] at c1
  rw [← hb] at c2
  rw [← hu]
  by_cases h0 : 0 < b
  · have hua : u = a + 1 := by omega
    have has : a ≤ s.size := by omega
    clear ha hb hu hfit
    subst hua
    go_enter Tryz.func37, Tryz.ntmps37
    go_wp2
    go_ret
    exact ⟨ret_int (by omega), rfl⟩
  · have hua : u = a := by omega
    clear ha hb hu hfit
    subst hua
    go_enter Tryz.func37, Tryz.ntmps37
    go_wp2
    go_ret
    exact ⟨rfl, rfl⟩

theorem text_run (w : World) (B : Nat) (s : ByteArray) (p : Nat) (tv : Value) (t : List UInt8) (M : Int) (fx : Option Addr) (h : Rd w B s p tv t M fx) : (convert 37 9 tv).run Tryz.prog w = .ok (.string ⟨t.toArray⟩) w := by
  by_cases h0 : 0 < t.length
  · obtain ⟨g, c, rfl, -⟩ := h.byte 0 h0
    refine run_convert_bytes_back w 37 9 5 ⟨g, 0, none⟩ c t Tryz.underlying37 Tryz.underlying5 Tryz.underlying9 (fun j hj => ?_)
    obtain ⟨g', c', he, hc⟩ := h.byte j hj
    injection he with e1 _ _
    injection e1 with e1
    injection e1 with e1 _ _
    subst e1
    have e2 : (⟨g, 0, none⟩ : Addr).add j = ⟨g, j, none⟩ := by unfold Addr.add; split <;> simp_all
    rw [e2, hc]
    simp [List.getD_eq_getElem?_getD, List.getElem?_eq_getElem hj]
  · have ht : t = [] := List.eq_nil_of_length_eq_zero (by omega)
    subst ht
    obtain ⟨_, ⟨rfl, _⟩ | ⟨g, cap, cur, rfl, hg, hh, _⟩⟩ := h.own
    · exact run_convert_bytes_nil w 37 5 Tryz.underlying37 Tryz.underlying5 0 0 9 Tryz.underlying9
    · exact run_convert_bytes_back w 37 9 5 ⟨g, 0, none⟩ cap [] Tryz.underlying37 Tryz.underlying5 Tryz.underlying9 (fun j hj => by simp at hj)

set_option maxHeartbeats 800000 in
theorem text_any (w : World) (B : Nat) (s : ByteArray) (p : Nat) (tv : Value) (t : List UInt8) (M : Int) (fx : Option Addr) (h : Rd w B s p tv t M fx) :
    Calls Tryz.prog 36 #[.pointer (some ⟨B, 0, none⟩)] w fun e w' => e = .returned (.string ⟨t.toArray⟩) ∧ w = w' := by
  obtain ⟨-, -, -, c3, -, -⟩ := h.cell
  have hcv := text_run w B s p tv t M fx h
  obtain ⟨ao, c, rfl⟩ := h.shape
  clear h
  go_enter Tryz.func36, Tryz.ntmps36
  go_wp2
  go_ret
  exact ⟨rfl, rfl⟩

/-- what Inflate answers -/
def ou (s : ByteArray) (M : Int) : ByteArray × Nat × Nat :=
  match inF s M with
  | .ok p t => (⟨t.toArray⟩, (p + 7) / 8, 0)
  | .no e t => if e = 1 then (⟨t.toArray⟩, 0, 1) else (⟨#[]⟩, 0, e)
theorem rd_new (w : World) (s : ByteArray) (m : Int) (hs : s.size ≤ 4194304) : Rd (w.alloc (.cells #[.string s, .int .i64 0, .int .i64 0, .slice none 0 0, .int .i64 (max m 0), .pointer none] 101)) w.heap.size s 0 (.slice none 0 0) [] (max m 0) none :=
  ⟨heap_alloc_new w _, ⟨rfl, Or.inl ⟨rfl, rfl⟩⟩, hs, by omega, by simp; omega, by simp⟩
theorem cpy_no {M : Int} {b p n e : Nat} {t t' : List UInt8} (h : cpy M b p n t = .no e t') : e ≠ 0 := by
  induction n generalizing t with
  | zero => simp [cpy] at h
  | succ n ih =>
    rw [cpy] at h
    split at h
    · exact ih h
    · injection h with h; omega
theorem agF_nz {M : Int} {zb : List Int} {s : ByteArray} {n p e : Nat} {t t' : List UInt8} (h : agF M zb s n p t = .no e t') : e ≠ 0 := by
  unfold agF at h
  split at h
  · rename_i e' hs
    have := symF_no _ _ _ _ _ _ _ hs
    injection h with h; omega
  · split at h
    · injection h with h; omega
    · split at h
      · split at h
        · injection h with h; omega
        · exact cpy_no h
      · injection h with h; omega
theorem ltF_nz {M : Int} {za zb : List Int} {s : ByteArray} {f p e : Nat} {t t' : List UInt8} (h : ltF M za zb s f p t = .no e t') : e ≠ 0 := by
  induction f generalizing p t with
  | zero => simp [ltF] at h
  | succ f ih =>
    rw [ltF] at h
    split at h
    · rename_i e' hs
      have := symF_no _ _ _ _ _ _ _ hs
      injection h with h; omega
    · split at h
      · split at h
        · exact ih h
        · injection h with h; omega
      · split at h
        · simp at h
        · split at h
          · split at h
            · split at h
              · exact ih h
              · rename_i e' t'' ha
                have := agF_nz ha
                injection h with h; omega
            · injection h with h; omega
          · injection h with h; omega
theorem rawF_nz {M : Int} {s : ByteArray} {n a e : Nat} {t t' : List UInt8} (h : rawF M s n a t = .no e t') : e ≠ 0 := by
  induction n generalizing a t with
  | zero => simp [rawF] at h
  | succ n ih =>
    rw [rawF] at h
    split at h
    · split at h
      · exact ih h
      · injection h with h; omega
    · injection h with h; omega
theorem owF_nz {s : ByteArray} {p e : Nat} (h : owF s p = .no e) : e ≠ 0 := by
  unfold owF at h
  split at h
  · split at h
    · injection h with h; omega
    · split at h
      · split at h
        · split at h
          · rename_i e' hl
            have := lnF_no hl
            injection h with h; omega
          · split at h
            · simp at h
            · injection h with h; omega
        · injection h with h; omega
      · injection h with h; omega
  · injection h with h; omega
theorem bkF_nz {M : Int} {s : ByteArray} {k p e : Nat} {t t' : List UInt8} (h : bkF M s k p t = .no e t') : e ≠ 0 := by
  unfold bkF at h
  split at h
  · unfold asF at h
    split at h
    · split at h
      · exact rawF_nz h
      · injection h with h; omega
    · injection h with h; omega
  · split at h
    · exact ltF_nz h
    · split at h
      · split at h
        · rename_i e' ho
          have := owF_nz ho
          injection h with h; omega
        · exact ltF_nz h
      · injection h with h; omega
theorem blF_nz {M : Int} {s : ByteArray} {f p e : Nat} {t t' : List UInt8} (h : blF M s f p t = .no e t') : e ≠ 0 := by
  induction f generalizing p t with
  | zero => simp [blF] at h
  | succ f ih =>
    rw [blF] at h
    split at h
    · split at h
      · rename_i e' t'' hb
        have := bkF_nz hb
        injection h with h; omega
      · split at h
        · simp at h
        · exact ih h
    · injection h with h; omega
theorem inF_no {s : ByteArray} {M : Int} {e : Nat} {t : List UInt8} (h : inF s M = .no e t) : e ≠ 0 := blF_nz h

set_option maxRecDepth 20000 in
set_option maxHeartbeats 800000 in
theorem inflate_any (w : World) (s : ByteArray) (m : Int) (hs : s.size ≤ 4194304) (hg : Glo w) (hw : 1 < w.heap.size) :
    Calls Tryz.prog 16 #[.string s, .int .i64 m] w fun e w' => e = .returned (.tuple #[.string (ou s (max m 0)).1, .int .i64 (ou s (max m 0)).2.1, .int .i64 (ou s (max m 0)).2.2]) ∧ Below w.heap.size w w' := by
  have hmf : ∀ (fn : Fn) (first cap : Array Value) (w : World), (Instr.makeFunc fn first cap).run Tryz.prog w = .ok (.func fn first cap) w := fun _ _ _ _ => rfl
  have hb0 : Below w.heap.size w (w.alloc (.cells #[.string s, .int .i64 0, .int .i64 0, .slice none 0 0, .int .i64 (max m 0), .pointer none] 101)) := (Below.refl _ _).alloc (Nat.le_refl _) _
  have HW := hid (why_any _ w.heap.size s (max m 0) _ (rd_new w s m hs) (hg.below hb0 hw) hw)
  have HB0 := hid hb0
  clear hb0 hg
  cases hr : inF s (max m 0) with
  | ok p t =>
    rw [hr] at HW
    rw [show ou s (max m 0) = (⟨t.toArray⟩, (p + 7) / 8, 0) by unfold ou; rw [hr]]
    clear hr
    go_enter Tryz.func16, Tryz.ntmps16
    go_wp2_with (first | (go_at_call 33; refine (unew_any _ _ _).mono ?_; rintro e w1 ⟨rfl, rfl⟩) | (go_at_call 34; refine HW.out.mono ?_; rintro e w2 ⟨rfl, ⟨tv, fx, hr2⟩, hk2⟩; have HR2 := hid hr2; clear hr2) | (go_at_call 36; refine (text_any _ _ _ _ _ _ _ _ HR2.out).mono ?_; rintro e w3 ⟨rfl, rfl⟩) | (go_at_call 37; refine (used_any _ _ _ _ _ _ _ _ HR2.out).mono ?_; rintro e w3 ⟨rfl, rfl⟩))
    go_ret3
    exact ⟨rfl, HB0.out.trans hk2.below⟩
  | no e t =>
    rw [hr] at HW
    have he0 := inF_no hr
    by_cases he1 : e = 1
    · subst he1
      rw [show ou s (max m 0) = (⟨t.toArray⟩, 0, 1) by unfold ou; rw [hr]; rfl]
      clear hr
      go_enter Tryz.func16, Tryz.ntmps16
      go_wp2_with (first | (go_at_call 33; refine (unew_any _ _ _).mono ?_; rintro e w1 ⟨rfl, rfl⟩) | (go_at_call 34; refine HW.out.mono ?_; rintro e w2 ⟨rfl, ⟨p2, tv, fx, hr2⟩, hk2⟩; have HR2 := hid hr2; clear hr2) | (go_at_call 36; refine (text_any _ _ _ _ _ _ _ _ HR2.out).mono ?_; rintro e w3 ⟨rfl, rfl⟩))
      go_ret3
      exact ⟨rfl, HB0.out.trans hk2.below⟩
    · rw [show ou s (max m 0) = (⟨#[]⟩, 0, e) by unfold ou; rw [hr]; simp only; rw [if_neg he1]]
      have b0 : ((e : Int) == 0) = false := beq_eq_false_iff_ne.2 (by omega)
      have b1 : ((e : Int) == 1) = false := beq_eq_false_iff_ne.2 (by omega)
      clear hr
      go_enter Tryz.func16, Tryz.ntmps16
      go_wp2_with (first | (go_at_call 33; refine (unew_any _ _ _).mono ?_; rintro e w1 ⟨rfl, rfl⟩) | (go_at_call 34; refine HW.out.mono ?_; rintro e w2 ⟨rfl, ⟨p2, tv, fx, hr2⟩, hk2⟩))
      go_ret3
      exact ⟨rfl, HB0.out.trans hk2.below⟩
end Go.Proofs.YthdmjmnkhlpnnaaGreatDoor

/-
  The program's Unframe, whole.
-/
namespace Go.Proofs.YthdmjmnkhlpnnaaGreatDoor
open Go.RowKit

theorem cpy_len {M : Int} {b p n : Nat} {t t' : List UInt8} {q : Nat} (h : cpy M b p n t = .ok q t') : t'.length = t.length + n := by
  induction n generalizing t with
  | zero => simp [cpy] at h; rw [h.2]; rfl
  | succ n ih =>
    rw [cpy] at h
    split at h
    · have := ih h
      simp at this
      omega
    · simp at h
theorem agF_len {M : Int} {zb : List Int} {s : ByteArray} {n p : Nat} {t t' : List UInt8} {q : Nat} (h : agF M zb s n p t = .ok q t') : t'.length = t.length + n := by
  unfold agF at h
  split at h
  · simp at h
  · split at h
    · simp at h
    · split at h
      · split at h
        · simp at h
        · exact cpy_len h
      · simp at h
theorem agn_258 : ∀ k, k ≤ 28 → (agn k).1 + 2 ^ (agn k).2 ≤ 259 := by decide
theorem ltF_len {M : Int} {za zb : List Int} {s : ByteArray} {f p : Nat} {t t' : List UInt8} {q : Nat} (h : ltF M za zb s f p t = .ok q t') : t'.length + 258 * p ≤ t.length + 258 * q := by
  induction f generalizing p t with
  | zero => simp [ltF] at h; rw [h.1, h.2]; omega
  | succ f ih =>
    rw [ltF] at h
    split at h
    · simp at h
    · rename_i v r hs
      have hr := sym_ok hs
      split at h
      · split at h
        · have := ih h
          simp at this
          omega
        · simp at h
      · split at h
        · simp at h
          obtain ⟨rfl, rfl⟩ := h
          omega
        · split at h
          · split at h
            · split at h
              · rename_i p2 t2 ha
                have h1 := agF_len ha
                have h2 := agF_end ha
                have h3 := ih h
                have h4 := agn_258 (v - 257).toNat (by omega)
                have h5 := val_lt s r (agn (v - 257).toNat).2
                omega
              · simp at h
            · simp at h
          · simp at h
theorem rawF_len {M : Int} {s : ByteArray} {n a : Nat} {t t' : List UInt8} {q : Nat} (h : rawF M s n a t = .ok q t') : t'.length + 8 * a ≤ t.length + q := by
  induction n generalizing a t with
  | zero => simp [rawF] at h; rw [← h.1, h.2]; omega
  | succ n ih =>
    rw [rawF] at h
    split at h
    · split at h
      · have := ih h
        simp at this
        omega
      · simp at h
    · simp at h
theorem bkF_len {M : Int} {s : ByteArray} {k p : Nat} {t t' : List UInt8} {q : Nat} (h : bkF M s k p t = .ok q t') : t'.length + 258 * p ≤ t.length + 258 * q := by
  unfold bkF at h
  split at h
  · unfold asF at h
    split at h
    · split at h
      · have h1 := rawF_len h
        have h2 := rawF_end h (by omega)
        omega
      · simp at h
    · simp at h
  · split at h
    · exact ltF_len h
    · split at h
      · split at h
        · simp at h
        · rename_i za zb r ho
          have h1 := ltF_len h
          have h2 := owF_len ho
          omega
      · simp at h
theorem blF_len {M : Int} {s : ByteArray} {f p : Nat} {t t' : List UInt8} {q : Nat} (h : blF M s f p t = .ok q t') (hp : p ≤ 8 * s.size) : t'.length + 258 * p ≤ t.length + 258 * q ∧ q ≤ 8 * s.size := by
  induction f generalizing p t with
  | zero => simp [blF] at h; rw [← h.1, h.2]; omega
  | succ f ih =>
    rw [blF] at h
    split at h
    · rename_i h3
      split at h
      · simp at h
      · rename_i r u hb
        have h1 := bkF_len hb
        have h2 := bkF_end hb h3
        split at h
        · simp at h
          rw [← h.1, ← h.2]
          omega
        · have := ih h h2.2
          omega
    · simp at h
/-- the text is no longer than 2,064 times the data, and what is used lies within -/
theorem inF_len {s : ByteArray} {M : Int} {p : Nat} {t : List UInt8} (h : inF s M = .ok p t) : t.length ≤ 258 * p ∧ p ≤ 8 * s.size := by
  have := blF_len h (by omega)
  simp at this
  omega

/-- what Unframe answers -/
def ufF (s : ByteArray) (M : Int) : ByteArray × Nat :=
  if bgF s ≠ 0 then (⟨#[]⟩, bgF s)
  else if (ou (s.extract 2 s.size) M).2.2 ≠ 0 then (⟨#[]⟩, (ou (s.extract 2 s.size) M).2.2)
  else if enF (s.extract (2 + (ou (s.extract 2 s.size) M).2.1) s.size) (ou (s.extract 2 s.size) M).1 ≠ 0 then (⟨#[]⟩, enF (s.extract (2 + (ou (s.extract 2 s.size) M).2.1) s.size) (ou (s.extract 2 s.size) M).1)
  else ((ou (s.extract 2 s.size) M).1, 0)
theorem below_drewN (w : World) (n : Nat) : Below w.heap.size w (w.drewN n) := ((Kp.refl 0 w.heap.size w).drewN n).below
theorem Glo.drewN {w : World} (h : Glo w) (n : Nat) : Glo (w.drewN n) := h
/-- what is used lies within the data, and the text fits -/
theorem ou_fit (s : ByteArray) (M : Int) (hs : s.size ≤ 4194304) (h0 : (ou s M).2.2 = 0) : (ou s M).2.1 ≤ s.size ∧ (ou s M).1.size ≤ maxLen := by
  unfold ou at h0 ⊢
  cases hr : inF s M with
  | ok p t =>
    have := inF_len hr
    simp only
    unfold maxLen
    refine ⟨by omega, ?_⟩
    show t.toArray.size ≤ _
    rw [List.size_toArray]
    omega
  | no e t =>
    exfalso
    rw [hr] at h0
    have he := inF_no hr
    simp only at h0
    split at h0
    · simp at h0
    · simp at h0; exact he h0
theorem bg_size {s : ByteArray} (h : bgF s = 0) : 2 ≤ s.size := by
  unfold bgF at h
  split at h
  · simp at h
  · omega
theorem extract_extract (s : ByteArray) (n : Nat) : (s.extract 2 s.size).extract n (s.extract 2 s.size).size = s.extract (2 + n) s.size := by
  rw [ByteArray.extract_extract]
  congr 1
  rw [ByteArray.size_extract]
  omega

set_option maxHeartbeats 1600000 in
theorem unframe_any (w : World) (s : ByteArray) (m : Int) (hs : s.size ≤ 4194304) (hg : Glo w) (hw : 1 < w.heap.size) :
    Calls Tryz.prog 17 #[.string s, .int .i64 m] w fun e w' => e = .returned (.tuple #[.string (ufF s (max m 0)).1, .int .i64 (ufF s (max m 0)).2]) ∧ Below w.heap.size w w' := by
  have HB := hid (begin_any s w hs)
  obtain ⟨b, hb⟩ : ∃ b, b = bgF s := ⟨_, rfl⟩
  rw [← hb] at HB
  obtain ⟨X, hX⟩ : ∃ X, X = ufF s (max m 0) := ⟨_, rfl⟩
  rw [← hX]
  by_cases h0 : b = 0
  · have h2 := bg_size (hb ▸ h0)
    have h2a : (2 : Int) ≤ (s.size : Int) := by omega
    obtain ⟨D, hD⟩ : ∃ D, D = s.extract 2 s.size := ⟨_, rfl⟩
    have hDs : D.size ≤ 4194304 := by rw [hD, ByteArray.size_extract]; omega
    have HI : Hid (∀ u : World, Glo u → 1 < u.heap.size → Calls Tryz.prog 16 #[.string D, .int .i64 m] u fun e w' => e = .returned (.tuple #[.string (ou D (max m 0)).1, .int .i64 (ou D (max m 0)).2.1, .int .i64 (ou D (max m 0)).2.2]) ∧ Below u.heap.size u w') := fun u h1 h2 => inflate_any u D m hDs h1 h2
    obtain ⟨A, hA⟩ : ∃ A, A = (ou D (max m 0)).1 := ⟨_, rfl⟩
    obtain ⟨N, hN⟩ : ∃ N, N = (ou D (max m 0)).2.1 := ⟨_, rfl⟩
    obtain ⟨E, hE⟩ : ∃ E, E = (ou D (max m 0)).2.2 := ⟨_, rfl⟩
    rw [← hA, ← hN, ← hE] at HI
    have HD := hid hD
    by_cases hE0 : E = 0
    · have hfit := ou_fit D (max m 0) hDs (by rw [← hE]; exact hE0)
      rw [← hA, ← hN] at hfit
      have hND : (N : Int) ≤ (D.size : Int) := by omega
      obtain ⟨R, hRR⟩ : ∃ R, R = D.extract N D.size := ⟨_, rfl⟩
      have hR2 : s.extract (2 + N) s.size = R := by rw [hRR, hD, extract_extract]
      have hRs : R.size ≤ 4194304 := by rw [hRR, ByteArray.size_extract]; omega
      have HEN : Hid (∀ u : World, Calls Tryz.prog 39 #[.string R, .string A] u fun e w' => e = .returned (.int .i64 (enF R A)) ∧ ∃ n, w' = u.drewN n) := fun u => end_any R A u hRs hfit.2
      obtain ⟨f, hf⟩ : ∃ f, f = enF R A := ⟨_, rfl⟩
      rw [← hf] at HEN
      have HXV : Hid (X = if f ≠ 0 then (⟨#[]⟩, f) else (A, 0)) := by
        show X = _
        rw [hX]
        unfold ufF
        rw [← hb, if_neg (by omega), ← hD, ← hE, if_neg (by omega), ← hA, ← hN, hR2, ← hf]
      have HRX := hid hRR
      subst hE0 h0
      have HG := hid hg
      clear hb hX hA hN hE hD hRR hR2 hf hfit hg
      by_cases hf0 : f = 0
      · subst hf0
        go_enter Tryz.func17, Tryz.ntmps17
        go_wp2_with (first | (go_at_call 38; refine HB.out.mono ?_; rintro e w1 ⟨rfl, n1, rfl⟩) | (go_at_call 16; rw [← HD.out]; refine (HI.out _ (HG.out.drewN n1) (by simp; omega)).mono ?_; rintro e w2 ⟨rfl, hb2⟩; have HB2 := hid hb2; clear hb2) | (go_at_call 39; rw [← HRX.out]; refine (HEN.out _).mono ?_; rintro e w3 ⟨rfl, n3, rfl⟩))
        go_ret2
        rw [HXV.out]
        refine ⟨rfl, (below_drewN w n1).trans (HB2.out.trans ?_)⟩
        exact (below_drewN w2 n3).mono HB2.out.size
      · have b1 : ((f : Int) != 0) = true := by rw [bne_iff_ne]; omega
        have HX2 : Hid (X = (⟨#[]⟩, f)) := by show X = _; rw [HXV.out, if_pos hf0]
        go_enter Tryz.func17, Tryz.ntmps17
        go_wp2_with (first | (go_at_call 38; refine HB.out.mono ?_; rintro e w1 ⟨rfl, n1, rfl⟩) | (go_at_call 16; rw [← HD.out]; refine (HI.out _ (HG.out.drewN n1) (by simp; omega)).mono ?_; rintro e w2 ⟨rfl, hb2⟩; have HB2 := hid hb2; clear hb2) | (go_at_call 39; rw [← HRX.out]; refine (HEN.out _).mono ?_; rintro e w3 ⟨rfl, n3, rfl⟩))
        go_ret2
        rw [HX2.out]
        refine ⟨rfl, (below_drewN w n1).trans (HB2.out.trans ?_)⟩
        exact (below_drewN w2 n3).mono HB2.out.size
    · have HXV : Hid (X = (⟨#[]⟩, E)) := by
        show X = _
        rw [hX]
        unfold ufF
        rw [← hb, if_neg (by omega), ← hD, ← hE, if_pos hE0]
      have b1 : ((E : Int) != 0) = true := by rw [bne_iff_ne]; omega
      have HG := hid hg
      subst h0
      clear hb hX hA hN hE hD hg
      go_enter Tryz.func17, Tryz.ntmps17
      go_wp2_with (first | (go_at_call 38; refine HB.out.mono ?_; rintro e w1 ⟨rfl, n1, rfl⟩) | (go_at_call 16; rw [← HD.out]; refine (HI.out _ (HG.out.drewN n1) (by simp; omega)).mono ?_; rintro e w2 ⟨rfl, hb2⟩; have HB2 := hid hb2; clear hb2))
      go_ret2
      rw [HXV.out]
      exact ⟨rfl, (below_drewN w n1).trans HB2.out⟩
  · have HX : Hid (X = (⟨#[]⟩, b)) := by show _ = _; rw [hX]; unfold ufF; rw [← hb, if_pos h0]
    have b1 : ((b : Int) != 0) = true := by rw [bne_iff_ne]; omega
    clear hb hX hg
    go_enter Tryz.func17, Tryz.ntmps17
    go_wp2_with (go_at_call 38; refine HB.out.mono ?_; rintro e w1 ⟨rfl, n, rfl⟩)
    go_ret2
    rw [HX.out]
    exact ⟨rfl, below_drewN w n⟩
end Go.Proofs.YthdmjmnkhlpnnaaGreatDoor

/-
  A frame put around blocks.
-/
namespace Go.Proofs.YthdmjmnkhlpnnaaGreatDoor
open Go.RowKit

/-- the four bytes of a number, the highest first -/
def be4 (n : Nat) : List UInt8 := [UInt8.ofNat (n / 16777216), UInt8.ofNat (n / 65536 % 256), UInt8.ofNat (n / 256 % 256), UInt8.ofNat (n % 256)]
set_option maxRecDepth 20000 in
set_option maxHeartbeats 400000 in
theorem bytesOf_any (n : Nat) (hn : n < 4294967296) (w : World) :
    Calls Tryz.prog 51 #[.int .u32 n] w fun e w' => ∃ v, e = .returned v ∧ (∀ u, Below w'.heap.size w' u → (convert 37 9 v).run Tryz.prog u = .ok (.string ⟨(be4 n).toArray⟩) u) ∧ Below w.heap.size w w' := by
  go_enter Tryz.func51, Tryz.ntmps51
  go_wp2
  go_ret
  refine ⟨_, rfl, fun u hb => ?_, (Below.refl _ _).alloc (Nat.le_refl _) _⟩
  have hh : u.heap[w.heap.size]? = some (.cells #[Value.int .u8 ((n : Int) / 16777216), .int .u8 ((n : Int) / 65536 % 256), .int .u8 ((n : Int) / 256 % 256), .int .u8 ((n : Int) % 256)] 5 (0, 0)) := (hb.block w.heap.size (by simp)).trans (heap_alloc_new w _)
  refine run_convert_bytes_back u 37 9 5 ⟨w.heap.size, 0, none⟩ 4 (be4 n) Tryz.underlying37 Tryz.underlying5 Tryz.underlying9 (fun j hj => ?_)
  have e2 : (⟨w.heap.size, 0, none⟩ : Addr).add j = ⟨w.heap.size, j, none⟩ := by unfold Addr.add; split <;> simp_all
  rw [e2, cell_of_row u w.heap.size j _ 5 (0, 0) hh]
  have hj4 : j < 4 := hj
  have c : j = 0 ∨ j = 1 ∨ j = 2 ∨ j = 3 := by omega
  rcases c with rfl | rfl | rfl | rfl <;> simp [be4] <;> omega
set_option maxRecDepth 20000 in
set_option maxHeartbeats 400000 in
theorem around_any (D S : ByteArray) (hD : D.size ≤ 4194304) (hS : S.size ≤ 4194304) (w : World) :
    Calls Tryz.prog 24 #[.string D, .string S] w fun e w' => e = .returned (.string (⟨#[120, 156]⟩ ++ D ++ ⟨(be4 (adS S.data.toList)).toArray⟩)) ∧ Below w.heap.size w w' := by
  obtain ⟨A, hA⟩ : ∃ A, A = adS S.data.toList := ⟨_, rfl⟩
  have hlt : A < 4294967296 := by rw [hA]; exact adS_lt _
  have HSU : Hid (∀ u : World, Calls Tryz.prog 52 #[.string S] u fun e w' => e = .returned (.int .u32 A) ∧ u = w') := fun u => (sumof_any S u (by unfold maxLen; omega)).mono fun e w' ⟨h1, h2⟩ => ⟨by rw [h1, hA, adS_int], h2⟩
  rw [← hA]
  have HBO := hid (bytesOf_any A hlt)
  obtain ⟨Z, hZ⟩ : ∃ Z : ByteArray, Z = ⟨(be4 A).toArray⟩ := ⟨_, rfl⟩
  have hZs : Z.size ≤ 4 := by rw [hZ]; exact Nat.le_refl 4
  rw [← hZ] at HBO ⊢
  clear hA hlt hZ
  go_enter Tryz.func24, Tryz.ntmps24
  go_wp2_with (first | (go_at_call 52; refine (HSU.out _).mono ?_; rintro e w1 ⟨rfl, rfl⟩) | (go_at_call 51; refine (HBO.out _).mono ?_; rintro e w1 ⟨v, rfl, hcv, hb1⟩; have hcv1 := hcv _ (Below.refl _ _); have HB1 := hid hb1; clear hcv hb1))
  go_ret
  exact ⟨rfl, HB1.out⟩
end Go.Proofs.YthdmjmnkhlpnnaaGreatDoor

/-
  Plain: what is packed is read back; cut, spoiled, framed.
-/
namespace Go.Proofs.YthdmjmnkhlpnnaaGreatDoor

theorem ba_ext {a b : ByteArray} (h : a.data.toList = b.data.toList) : a = b := ByteArray.ext (Array.toList_inj.1 h)
theorem ba_app (a b : ByteArray) : (a ++ b).data.toList = a.data.toList ++ b.data.toList := by rw [ByteArray.data_append, Array.toList_append]
theorem ba_ext_list (a : ByteArray) (i j : Nat) : (a.extract i j).data.toList = (a.data.toList.take j).drop i := by
  rw [ByteArray.data_extract, Array.toList_extract]
  exact List.extract_eq_drop_take'
theorem ba_of (l : List UInt8) : (⟨l.toArray⟩ : ByteArray).data.toList = l := rfl
theorem ba_self (a : ByteArray) : a = ⟨a.data.toList.toArray⟩ := ba_ext (by simp)
theorem ba_size (l : List UInt8) : (⟨l.toArray⟩ : ByteArray).size = l.length := by show l.toArray.size = _; simp
theorem lft_div {q n : Nat} (h : 8 * n = q + lft q) : (q + 7) / 8 = n := by unfold lft at h; omega
/-- Inflate of what Deflate gave, whatever comes behind -/
theorem Dfl.ou {lv : Nat} {t o : List UInt8} (h : Dfl lv t o) (x : List UInt8) (M : Int) (hM : (t.length : Int) ≤ M) : ou ⟨(o ++ x).toArray⟩ M = (⟨t.toArray⟩, o.length, 0) := by
  obtain ⟨q, hq, hl, h0⟩ := h.reads x M hM
  unfold Go.Proofs.YthdmjmnkhlpnnaaGreatDoor.ou
  rw [hq]
  simp only
  rw [lft_div hl]
theorem Dfl.ne {lv : Nat} {t o : List UInt8} (h : Dfl lv t o) : 0 < o.length := by
  obtain ⟨q, hq, hl, h0⟩ := h.reads [] t.length (Int.le_refl _)
  omega
/-- a beginning of it, but not all of it -/
theorem Dfl.cut {lv : Nat} {t o : List UInt8} (h : Dfl lv t o) (c : Nat) (hc : c < o.length) : ∃ t', Go.Proofs.YthdmjmnkhlpnnaaGreatDoor.ou ⟨(o.take c).toArray⟩ t.length = (⟨t'.toArray⟩, 0, 1) ∧ t' <+: t := by
  obtain ⟨q, hq, hl, h0⟩ := h.reads [] t.length (Int.le_refl _)
  rw [List.append_nil] at hq
  have hb : Beg ⟨(o.take c).toArray⟩ ⟨o.toArray⟩ := ⟨by rw [ba_size, ba_size, List.length_take]; omega, fun i hi => by
    rw [ba_size, List.length_take] at hi
    unfold byu
    rw [ba_of, ba_of, List.getD_eq_getElem?_getD, List.getD_eq_getElem?_getD, List.getElem?_take, if_pos (by omega)]⟩
  obtain ⟨t', h1, h2⟩ := inF_cut hb hq (by rw [ba_size, List.length_take]; unfold lft at hl; omega)
  refine ⟨t', ?_, h2⟩
  unfold Go.Proofs.YthdmjmnkhlpnnaaGreatDoor.ou
  rw [h1]
  rfl
/-- less room than the text needs -/
theorem Dfl.room {lv : Nat} {t o : List UInt8} (h : Dfl lv t o) (M : Int) (h0 : 0 ≤ M) (hM : M < t.length) : Go.Proofs.YthdmjmnkhlpnnaaGreatDoor.ou ⟨o.toArray⟩ M = (⟨#[]⟩, 0, 6) := by
  obtain ⟨q, hq, -, -⟩ := h.reads [] t.length (Int.le_refl _)
  rw [List.append_nil] at hq
  obtain ⟨t', h1⟩ := inF_room hq h0 hM
  unfold Go.Proofs.YthdmjmnkhlpnnaaGreatDoor.ou
  rw [h1]
  rfl
/-- what Frame gives -/
def frl (t o : List UInt8) : List UInt8 := [120, 156] ++ o ++ be4 (adS t)
theorem num4_be4 (n : Nat) (h : n < 4294967296) (l : List UInt8) : num4 ⟨(be4 n ++ l).toArray⟩ 4 = n := by
  simp only [num4, byt, be4, List.cons_append, List.nil_append, List.getD_cons_zero, List.getD_cons_succ, UInt8.toNat_ofNat']
  omega
theorem frl_bg (x : List UInt8) : bgF ⟨([120, 156] ++ x).toArray⟩ = 0 := by
  unfold bgF
  rw [if_neg (by rw [ba_size]; simp)]
  rw [if_pos]
  simp only [byt, List.cons_append, List.nil_append, List.getD_cons_zero, List.getD_cons_succ]
  decide
theorem frl_rest (x : List UInt8) : (⟨([120, 156] ++ x).toArray⟩ : ByteArray).extract 2 (⟨([120, 156] ++ x).toArray⟩ : ByteArray).size = ⟨x.toArray⟩ := by
  apply ba_ext
  rw [ba_ext_list, ba_of, ba_size, List.take_length]
  rfl
theorem frl_end (o y : List UInt8) : (⟨([120, 156] ++ (o ++ y)).toArray⟩ : ByteArray).extract (2 + o.length) (⟨([120, 156] ++ (o ++ y)).toArray⟩ : ByteArray).size = ⟨y.toArray⟩ := by
  apply ba_ext
  rw [ba_ext_list, ba_of, ba_size, List.take_length, ← List.append_assoc, List.drop_left' (by simp; omega)]
/-- Unframe of blocks with something behind them -/
theorem Dfl.uf {lv : Nat} {t o : List UInt8} (h : Dfl lv t o) (y : List UInt8) (M : Int) (hM : (t.length : Int) ≤ M) : ufF ⟨([120, 156] ++ (o ++ y)).toArray⟩ M = if enF ⟨y.toArray⟩ ⟨t.toArray⟩ ≠ 0 then (⟨#[]⟩, enF ⟨y.toArray⟩ ⟨t.toArray⟩) else (⟨t.toArray⟩, 0) := by
  unfold ufF
  rw [frl_bg, if_neg (by simp), frl_rest, h.ou y M hM]
  simp only
  rw [if_neg (by simp), frl_end]
theorem en_four (y t : List UInt8) : enF ⟨(be4 (adS t) ++ y).toArray⟩ ⟨t.toArray⟩ = if y = [] then 0 else 7 := by
  unfold enF
  rw [ba_size, if_neg (by simp [be4]), num4_be4 _ (adS_lt t), if_pos rfl]
  cases y with
  | nil => rw [if_neg (by simp [be4]), if_pos rfl]
  | cons a b => rw [if_pos (by simp [be4]), if_neg (by simp)]
/-- of a whole frame -/
theorem Dfl.frame {lv : Nat} {t o : List UInt8} (h : Dfl lv t o) (M : Int) (hM : (t.length : Int) ≤ M) : ufF ⟨(frl t o).toArray⟩ M = (⟨t.toArray⟩, 0) := by
  have := h.uf (be4 (adS t) ++ []) M hM
  rw [en_four, if_pos rfl, if_neg (by simp), List.append_nil] at this
  unfold frl
  rw [List.append_assoc]
  exact this
end Go.Proofs.YthdmjmnkhlpnnaaGreatDoor
