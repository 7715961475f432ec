/-
  Plain: how long a text may be that some data tells.
-/
import Derived.Test.YthdmjmnkhlpnnaaDoorBlk
namespace Go.Proofs.YthdmjmnkhlpnnaaDoor
open Go.RowKit

theorem cpy_len {M : Int} {b p n : Nat} {t t' : List UInt8} {q : Nat} (h : cpy M b p n t = .ok q t') : t'.length = t.length + n := by
  induction n generalizing t with
  | zero => simp [cpy] at h; rw [h.2]; rfl
  | succ n ih =>
    rw [cpy] at h
    split at h
    · have := ih h
      simp at this
      omega
    · simp at h
theorem agF_len {M : Int} {zb : List Int} {s : ByteArray} {n p : Nat} {t t' : List UInt8} {q : Nat} (h : agF M zb s n p t = .ok q t') : t'.length = t.length + n := by
  unfold agF at h
  split at h
  · simp at h
  · split at h
    · simp at h
    · split at h
      · split at h
        · simp at h
        · exact cpy_len h
      · simp at h
theorem agn_258 : ∀ k, k ≤ 28 → (agn k).1 + 2 ^ (agn k).2 ≤ 259 := by decide
theorem ltF_len {M : Int} {za zb : List Int} {s : ByteArray} {f p : Nat} {t t' : List UInt8} {q : Nat} (h : ltF M za zb s f p t = .ok q t') : t'.length + 258 * p ≤ t.length + 258 * q := by
  induction f generalizing p t with
  | zero => simp [ltF] at h; rw [h.1, h.2]; omega
  | succ f ih =>
    rw [ltF] at h
    split at h
    · simp at h
    · rename_i v r hs
      have hr := sym_ok hs
      split at h
      · split at h
        · have := ih h
          simp at this
          omega
        · simp at h
      · split at h
        · simp at h
          obtain ⟨rfl, rfl⟩ := h
          omega
        · split at h
          · split at h
            · split at h
              · rename_i p2 t2 ha
                have h1 := agF_len ha
                have h2 := agF_end ha
                have h3 := ih h
                have h4 := agn_258 (v - 257).toNat (by omega)
                have h5 := val_lt s r (agn (v - 257).toNat).2
                omega
              · simp at h
            · simp at h
          · simp at h
theorem rawF_len {M : Int} {s : ByteArray} {n a : Nat} {t t' : List UInt8} {q : Nat} (h : rawF M s n a t = .ok q t') : t'.length + 8 * a ≤ t.length + q := by
  induction n generalizing a t with
  | zero => simp [rawF] at h; rw [← h.1, h.2]; omega
  | succ n ih =>
    rw [rawF] at h
    split at h
    · split at h
      · have := ih h
        simp at this
        omega
      · simp at h
    · simp at h
theorem bkF_len {M : Int} {s : ByteArray} {k p : Nat} {t t' : List UInt8} {q : Nat} (h : bkF M s k p t = .ok q t') : t'.length + 258 * p ≤ t.length + 258 * q := by
  unfold bkF at h
  split at h
  · unfold asF at h
    split at h
    · split at h
      · have h1 := rawF_len h
        have h2 := rawF_end h (by omega)
        omega
      · simp at h
    · simp at h
  · split at h
    · exact ltF_len h
    · split at h
      · split at h
        · simp at h
        · rename_i za zb r ho
          have h1 := ltF_len h
          have h2 := owF_len ho
          omega
      · simp at h
theorem blF_len {M : Int} {s : ByteArray} {f p : Nat} {t t' : List UInt8} {q : Nat} (h : blF M s f p t = .ok q t') (hp : p ≤ 8 * s.size) : t'.length + 258 * p ≤ t.length + 258 * q ∧ q ≤ 8 * s.size := by
  induction f generalizing p t with
  | zero => simp [blF] at h; rw [← h.1, h.2]; omega
  | succ f ih =>
    rw [blF] at h
    split at h
    · rename_i h3
      split at h
      · simp at h
      · rename_i r u hb
        have h1 := bkF_len hb
        have h2 := bkF_end hb h3
        split at h
        · simp at h
          rw [← h.1, ← h.2]
          omega
        · have := ih h h2.2
          omega
    · simp at h
/-- the text is no longer than 2,064 times the data, and what is used lies within -/
theorem inF_len {s : ByteArray} {M : Int} {p : Nat} {t : List UInt8} (h : inF s M = .ok p t) : t.length ≤ 258 * p ∧ p ≤ 8 * s.size := by
  have := blF_len h (by omega)
  simp at this
  omega
end Go.Proofs.YthdmjmnkhlpnnaaDoor
